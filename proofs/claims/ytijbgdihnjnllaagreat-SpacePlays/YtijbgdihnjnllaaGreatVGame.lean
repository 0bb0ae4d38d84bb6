/- The laws' game in memory: a store with two files, and what these should be; 'start', walked. -/
import Derived.Test.YtijbgdihnjnllaaGreatVSim
import Derived.Deep.MidRow
namespace Go.Proofs.YtijbgdihnjnllaaGreat.V
open Go.RowKit
set_option linter.unusedVariables false
set_option maxRecDepth 20000
theorem heap_mid {b : Nat} {t : TypeId} : ∀ (vs : List Value) (o : Nat) {w : World} {C : List Value}, w.heap[b]? = some (.cells C.toArray t (0, 0)) → o + vs.length ≤ C.length → (w.setCells b o vs).heap[b]? = some (.cells (C.take o ++ vs ++ C.drop (o + vs.length)).toArray t (0, 0))
  | [], o, w, C, h, hl => by simpa [World.setCells] using h
  | v :: vs, o, w, C, h, hl => by
    have h1 := F.heap_set h o v
    rw [List.setIfInBounds_toArray] at h1
    have ho : o < C.length := by simp at hl; omega
    have h2 := heap_mid vs (o + 1) h1 (by rw [List.length_set]; simp at hl; omega)
    rw [World.setCells, h2]
    have e1 : (C.set o v).take (o + 1) = C.take o ++ [v] := by
      rw [List.take_succ_eq_append_getElem (by rw [List.length_set]; exact ho), List.getElem_set_self, List.take_set_of_le (Nat.le_refl _)]
    have e2 : (C.set o v).drop (o + 1 + vs.length) = C.drop (o + (v :: vs).length) := by
      rw [List.drop_set_of_lt (by omega), List.length_cons]
      congr 1; omega
    rw [e1, e2]
    simp
/-- The game's cells. -/
def gc (p : Nat) (L : Nat → List UInt8) (G : Nat → Nat → Bool) : List Value := [.pointer (some ⟨p, 0, none⟩), .int .i64 2, .int .i64 3] ++ (rc (L 0) (G 0) ++ rc (L 1) (G 1))
theorem gc_len (p : Nat) (L : Nat → List UInt8) (G : Nat → Nat → Bool) : (gc p L G).length = 157 := by unfold gc; simp [rc_len]
def setf {α : Type} (f : Nat → α) (i : Nat) (x : α) : Nat → α := fun k => if k = i then x else f k
theorem gc_row (p : Nat) (L : Nat → List UInt8) (G : Nat → Nat → Bool) {i k : Nat} (hi : i < 2) (hk : k < 77) : (gc p L G)[3 + 77 * i + k]? = (rc (L i) (G i))[k]? := by
  have h01 : i = 0 ∨ i = 1 := by omega
  unfold gc
  rcases h01 with rfl | rfl
  · rw [List.getElem?_append_right (by simp <;> omega), List.getElem?_append_left (by rw [rc_len]; simp <;> omega)]
    congr 1; simp <;> omega
  · rw [List.getElem?_append_right (by simp <;> omega), List.getElem?_append_right (by rw [rc_len]; simp <;> omega), rc_len]
    congr 1; simp <;> omega
theorem gc_hd (p : Nat) (L L' : Nat → List UInt8) (G G' : Nat → Nat → Bool) {k : Nat} (hk : k < 3) : (gc p L G)[k]? = (gc p L' G')[k]? := by
  unfold gc
  rw [List.getElem?_append_left (by simpa using hk), List.getElem?_append_left (by simpa using hk)]
theorem gc_set (p : Nat) (L : Nat → List UInt8) (G : Nat → Nat → Bool) {i : Nat} (hi : i < 2) (l : List UInt8) (g : Nat → Bool) : (gc p L G).take (3 + 77 * i) ++ rc l g ++ (gc p L G).drop (3 + 77 * i + (rc l g).length) = gc p (setf L i l) (setf G i g) := by
  have hl := gc_len p L G
  have hl' := gc_len p (setf L i l) (setf G i g)
  have hr := rc_len l g
  have ht : ((gc p L G).take (3 + 77 * i)).length = 3 + 77 * i := by rw [List.length_take, hl]; omega
  rw [hr]
  apply List.ext_getElem?
  intro k
  by_cases h1 : k < 3
  · rw [List.getElem?_append_left (by rw [List.length_append, ht]; omega), List.getElem?_append_left (by rw [ht]; omega), List.getElem?_take, if_pos (by omega)]
    exact gc_hd p L _ G _ h1
  · by_cases h2 : k < 157
    · obtain ⟨j, r, hj, hrr, rfl⟩ : ∃ j r, j < 2 ∧ r < 77 ∧ k = 3 + 77 * j + r := ⟨(k - 3) / 77, (k - 3) % 77, by omega, by omega, by omega⟩
      rw [gc_row p (setf L i l) (setf G i g) hj hrr]
      by_cases h3 : j = i
      · subst h3
        rw [List.getElem?_append_left (by rw [List.length_append, ht, hr]; omega), List.getElem?_append_right (by rw [ht]; omega), ht, show 3 + 77 * j + r - (3 + 77 * j) = r by omega, setf, if_pos rfl, setf, if_pos rfl]
      · rw [setf, if_neg h3, setf, if_neg h3]
        by_cases h4 : j < i
        · rw [List.getElem?_append_left (by rw [List.length_append, ht]; omega), List.getElem?_append_left (by rw [ht]; omega), List.getElem?_take, if_pos (by omega), gc_row p L G hj hrr]
        · rw [List.getElem?_append_right (by rw [List.length_append, ht, hr]; omega), List.length_append, ht, hr, List.getElem?_drop, show 3 + 77 * i + 77 + (3 + 77 * j + r - (3 + 77 * i + 77)) = 3 + 77 * j + r by omega, gc_row p L G hj hrr]
    · rw [List.getElem?_eq_none (by rw [List.length_append, List.length_append, ht, hr, List.length_drop, hl]; omega), List.getElem?_eq_none (by rw [hl']; omega)]
def GM (w : World) (b p : Nat) (L : Nat → List UInt8) (G : Nat → Nat → Bool) : Prop := w.heap[b]? = some (.cells (gc p L G).toArray 67 (0, 0))
section
variable {w w' : World} {b p i : Nat} {L : Nat → List UInt8} {G : Nat → Nat → Bool}
theorem GM.keep (h : GM w b p L G) (he : w'.heap[b]? = w.heap[b]?) : GM w' b p L G := he.trans h
theorem GM.lt (h : GM w b p L G) : b < w.heap.size := (Array.getElem?_eq_some_iff.1 h).1
theorem GM.c0 (h : GM w b p L G) : w.cell? ⟨b, 0, none⟩ = some (.pointer (some ⟨p, 0, none⟩)) := by rw [cell_of_row w b 0 _ 67 _ h]; rfl
theorem GM.cn (h : GM w b p L G) (hi : i < 2) : w.cell? ⟨b, 1 + i, none⟩ = some (.int .i64 ((2 + i : Nat) : Int)) := by
  have h01 : i = 0 ∨ i = 1 := by omega
  rcases h01 with rfl | rfl <;> (rw [cell_of_row w b _ _ 67 _ h]; rfl)
theorem GM.range (h : GM w b p L G) (hi : i < 2) : w.rangeAt b (3 + 77 * i) (rc (L i) (G i)) := fun k v hk => by
  have hk7 : k < 77 := by have := (List.getElem?_eq_some_iff.1 hk).1; rwa [rc_len] at this
  rw [cell_of_row w b _ _ 67 _ h, List.getElem?_toArray, gc_row p L G hi hk7]
  exact hk
theorem GM.str (h : GM w b p L G) (hi : i < 2) : w.cell? ⟨b, 3 + 77 * i, none⟩ = some (.string (sb (L i))) := h.range hi 0 _ rfl
theorem GM.there (h : GM w b p L G) (hi : i < 2) (l : List UInt8) (g : Nat → Bool) : w.there b (3 + 77 * i) (rc l g).toArray.size := fun k hk => by
  rw [List.size_toArray, rc_len] at hk
  obtain ⟨v, hv⟩ : ∃ v, (rc (L i) (G i))[k]? = some v := ⟨_, List.getElem?_eq_getElem (by rw [rc_len]; exact hk)⟩
  exact ⟨by rw [h.range hi k v hv]; rfl, F.free_in h _⟩
theorem GM.store (h : GM w b p L G) (hi : i < 2) (l : List UInt8) (g : Nat → Bool) : GM (w.setCells b (3 + 77 * i) (rc l g)) b p (setf L i l) (setf G i g) := by
  have := heap_mid (rc l g) (3 + 77 * i) h (by rw [rc_len, gc_len]; omega)
  rw [gc_set p L G hi] at this
  exact this
end
/-- While the game is made. -/
def gcn (p : Nat) (n1 n2 : Int) : List Value := [.pointer (some ⟨p, 0, none⟩), .int .i64 n1, .int .i64 n2] ++ (rc [] (fun _ => false) ++ rc [] (fun _ => false))
theorem z67 : Tryz.zeroCells67 = (([.pointer none, .int .i64 0, .int .i64 0] : List Value) ++ (rc [] (fun _ => false) ++ rc [] (fun _ => false))).toArray := by kernel_rfl
theorem z67p (p : Nat) : Tryz.zeroCells67.setIfInBounds 0 (.pointer (some ⟨p, 0, none⟩)) = (gcn p 0 0).toArray := by rw [z67]; rfl
def GMs (w : World) (b p : Nat) (n1 n2 : Int) : Prop := w.heap[b]? = some (.cells (gcn p n1 n2).toArray 67 (0, 0))
section
variable {w w' : World} {b p : Nat} {n1 n2 : Int}
theorem GMs.keep (h : GMs w b p n1 n2) (he : w'.heap[b]? = w.heap[b]?) : GMs w' b p n1 n2 := he.trans h
theorem GMs.lt (h : GMs w b p n1 n2) : b < w.heap.size := (Array.getElem?_eq_some_iff.1 h).1
theorem GMs.c0 (h : GMs w b p n1 n2) : w.cell? ⟨b, 0, none⟩ = some (.pointer (some ⟨p, 0, none⟩)) := by rw [cell_of_row w b 0 _ 67 _ h]; rfl
theorem GMs.c1 (h : GMs w b p n1 n2) : w.cell? ⟨b, 1, none⟩ = some (.int .i64 n1) := by rw [cell_of_row w b 1 _ 67 _ h]; rfl
theorem GMs.c2 (h : GMs w b p n1 n2) : w.cell? ⟨b, 2, none⟩ = some (.int .i64 n2) := by rw [cell_of_row w b 2 _ 67 _ h]; rfl
theorem GMs.free (h : GMs w b p n1 n2) (i : Nat) : w.frozen? ⟨b, i, none⟩ = false := F.free_in h i
theorem GMs.s1 (h : GMs w b p n1 n2) (x : Int) : GMs (w.setCell ⟨b, 1, none⟩ (.int .i64 x)) b p x n2 := by
  have := F.heap_set h 1 (.int .i64 x)
  rw [List.setIfInBounds_toArray] at this
  exact this
theorem GMs.s2 (h : GMs w b p n1 n2) (x : Int) : GMs (w.setCell ⟨b, 2, none⟩ (.int .i64 x)) b p n1 x := by
  have := F.heap_set h 2 (.int .i64 x)
  rw [List.setIfInBounds_toArray] at this
  exact this
end
/-- A row of one's own that is changed leaves the store. -/
theorem side_ {w0 w w' : World} {p d N q P : Nat} {O : List Nat} {s : DS} {X : Secs2} {m : List Wr} (h : Sto w0 w p d O N s X q m) (hc : Chg [P] w w') (hP : P ∉ O ∧ P ≠ p ∧ P ≠ q ∧ w0.heap.size ≤ P) : Sto w0 w' p d O N s X q m := by
  have hw0 : w0.heap.size ≤ w.heap.size := h.ons.sit.bel.size
  refine h.keep_ (fun b hb => ?_) (hc.below hw0 fun b hb => by simp at hb; omega)
  rcases hb with hb | hb | hb
  · exact hc.block b (h.ons.sit.drv.lt _ hb) (by simp; rintro rfl; exact hP.1 hb)
  · exact hc.block b (by rw [hb]; exact h.st.lt) (by simp; omega)
  · exact hc.block b (by rw [hb]; exact h.map.lt) (by simp; omega)
theorem newer {w0 w : World} {p d N q P : Nat} {O : List Nat} {s : DS} {X : Secs2} {m : List Wr} (h : Sto w0 w p d O N s X q m) (hP : w.heap.size ≤ P) : P ∉ O ∧ P ≠ p ∧ P ≠ q ∧ w0.heap.size ≤ P := by
  have h1 := h.st.lt
  have h2 := h.map.lt
  have h3 := h.pf
  exact ⟨fun hm => by have := h.ons.sit.drv.lt _ hm; omega, by omega, by omega, by omega⟩
/-- The files beside what they should be. y, f, C: of each file; G: which blocks are there. -/
structure Fls (N : Nat) (V : Img) (y : Nat → D.Nn) (f : Nat → Nat → Nat) (C : Nat → Nat → UInt8) (G : Nat → Nat → Bool) : Prop where
  fl : ∀ i, i < 2 → Fl N (GL (gl (f (1 - i)))) V (2 + i) (y i) (f i) (C i)
  bl : ∀ i, i < 2 → ∀ b, b < 76 → (G i b = true ↔ f i (ixb b) ≠ 0)
/-- Between two steps. -/
def PInv (w0 w : World) (b p d q N : Nat) : Prop := ∃ O s X y f C G, Sto w0 w p d O N s X q [] ∧ Fls N (view X []) y f C G ∧ GM w b p (fun i => byt (C i) 0 (y i).s) G ∧ (b ∉ O ∧ b ≠ p ∧ b ≠ q ∧ w0.heap.size ≤ b)
theorem Fls.two {N : Nat} {V : Img} {y : Nat → D.Nn} {f : Nat → Nat → Nat} {C : Nat → Nat → UInt8} {G : Nat → Nat → Bool} (h : Fls N V y f C G) {i : Nat} (hi : i < 2) : Two (2 + i) (2 + (1 - i)) N V (y i) (f i) (C i) (y (1 - i)) (f (1 - i)) (C (1 - i)) :=
  ⟨h.fl i hi, by have := h.fl (1 - i) (by omega); rw [show 1 - (1 - i) = i by omega] at this; exact this⟩
set_option maxHeartbeats 2000000 in
theorem start_any (N : Nat) (w : World) (h0 : 64 ≤ N) (h1 : N ≤ 1024) : Calls Tryz.prog 8 #[.int .i64 N] w fun e w' => ∃ b p d q, e = .returned (.pointer (some ⟨b, 0, none⟩)) ∧ PInv w w' b p d q N := by
  go_enter Tryz.func8, Tryz.ntmps8
  go_wp2_with fail
  refine (begin_any N w h0 h1).mono ?_
  rintro e w1 ⟨d, p, q, O, s, rfl, hs1⟩
  have H1 := Lib.hid hs1
  have HSD := Lib.hid (Xb_std (N := N) h0 h1)
  have hok : Hid (U.ok N 1 0 = true) := U.ok_iff.2 (by omega)
  clear hs1
  go_upto_region 2 with fail
  rw [z67p]
  obtain ⟨a0, a1, a2⟩ := D.box1 w1 (Obj.cells (gcn p 0 0).toArray 67)
  have HP := Lib.hid (newer H1.out (Nat.le_refl w1.heap.size))
  have H2 := Lib.hid (H1.out.below a1)
  generalize w1.alloc (Obj.cells (gcn p 0 0).toArray 67) = w2 at *
  generalize w1.heap.size = B at *
  have M2 : Hid (GMs w2 B p 0 0) := a0
  have c0 := M2.out.c0
  clear a0 a1 a2 H1
  go_wp2_with fail
  go_loopw [4] (fun i wr => ∃ k : Nat, k ≤ 2 ∧ i = .int .i64 k ∧ Hid (∃ m n1 n2, Sto w wr p d O N s (Xb N) q m ∧ GMs wr B p n1 n2 ∧ (k = 0 → m = [] ∧ n1 = 0 ∧ n2 = 0) ∧ (k = 1 → m = m1 N 1 0 1 ∧ n1 = 2 ∧ n2 = 0) ∧ (k = 2 → m = m3 N 1 0 ∧ n1 = 2 ∧ n2 = 3))) (fun i _ => 2 - (intOf i).toNat)
  case atStart => exact ⟨0, by omega, rfl, [], 0, 0, H2.out, M2.out, fun _ => ⟨rfl, rfl, rfl⟩, fun h => by omega, fun h => by omega⟩
  case round =>
    clear c0
    obtain ⟨k, hk, rfl, m, n1, n2, hs, hm, k0, k1, k2⟩ := hrel
    have HS := Lib.hid hs
    have c0 := hm.c0
    have HM := Lib.hid hm
    have hBq := HP.out.2.2.1
    clear hs hm
    have h012 : k = 0 ∨ k = 1 ∨ k = 2 := by omega
    rcases h012 with rfl | rfl | rfl
    · obtain ⟨rfl, rfl, rfl⟩ := k0 rfl
      clear k0 k1 k2
      rw [show ((0 : Nat) : Int) = 0 from rfl]
      go_wp2_with fail
      refine (new_std (k := 1) HS.out HSD.out hok.out (by omega) (.inl rfl)).mono ?_
      rintro e w3 ⟨rfl, h3, hc3⟩
      have H3 := Lib.hid h3
      have M3 : Hid (GMs w3 B p 0 0) := HM.out.keep (hc3.block _ HM.out.lt (by simp; exact hBq))
      have d1 := M3.out.c1
      have d2 := M3.out.free 1
      have M4 := Lib.hid (M3.out.s1 2)
      have H4 := Lib.hid (side_ H3.out (P := B) (w' := w3.setCell ⟨B, 1, none⟩ (.int .i64 2)) ((Chg.refl [B] w3).setCell (p := ⟨B, 1, none⟩) (.inl (by simp)) _) HP.out)
      clear h3 hc3 HS HM c0
      go_wp2_with fail
      go_roundw
      case rel => exact ⟨1, by omega, by go_num, _, 2, 0, H4.out, M4.out, fun h => by omega, fun _ => ⟨rfl, rfl, rfl⟩, fun h => by omega⟩
      case measure => simp [intOf]
    · obtain ⟨rfl, rfl, rfl⟩ := k1 rfl
      clear k0 k1 k2
      rw [show ((1 : Nat) : Int) = 1 from rfl]
      go_wp2_with fail
      refine (new_std3 HS.out HSD.out hok.out (by omega)).mono ?_
      rintro e w3 ⟨rfl, h3, hc3⟩
      have H3 := Lib.hid h3
      have M3 : Hid (GMs w3 B p 2 0) := HM.out.keep (hc3.block _ HM.out.lt (by simp; exact hBq))
      have d1 := M3.out.c2
      have d2 := M3.out.free 2
      have M4 := Lib.hid (M3.out.s2 3)
      have H4 := Lib.hid (side_ H3.out (P := B) (w' := w3.setCell ⟨B, 2, none⟩ (.int .i64 3)) ((Chg.refl [B] w3).setCell (p := ⟨B, 2, none⟩) (.inl (by simp)) _) HP.out)
      clear h3 hc3 HS HM c0
      go_wp2_with fail
      go_roundw
      case rel => exact ⟨2, by omega, by go_num, _, 2, 3, H4.out, M4.out, fun h => by omega, fun h => by omega, fun _ => ⟨rfl, rfl, rfl⟩⟩
      case measure => simp [intOf]
    · obtain ⟨rfl, rfl, rfl⟩ := k2 rfl
      clear k0 k1 k2
      rw [show ((2 : Nat) : Int) = 2 from rfl]
      have HT := Lib.hid (two_new (N := N) (ep := 1) (g := 0) h1 HSD.out (by omega))
      go_wp2_with fail
      refine (commit_view HS.out).mono ?_
      rintro e w4 ⟨rfl, O4, s4, X4, h4, hv4, hc4, ho4⟩
      have H4 := Lib.hid h4
      have HT4 : Hid (Two 2 3 N (view X4 []) (YtijbgdihnjnllaaGreat.nn 1 1) (fun _ => 0) (fun _ => 0) (YtijbgdihnjnllaaGreat.nn 1 2) (fun _ => 0) (fun _ => 0)) := by rw [hv4]; exact HT.out
      have M4 : Hid (GMs w4 B p 2 3) := HM.out.keep (hc4.block _ HM.out.lt (by simp; exact ⟨hBq, HP.out.1⟩))
      have HP4 : Hid (B ∉ O4 ∧ B ≠ p ∧ B ≠ q ∧ w.heap.size ≤ B) := ⟨fun hm => (ho4 _ hm).elim HP.out.1 fun h => by have := HM.out.lt; omega, HP.out.2⟩
      clear h4 hv4 hc4 ho4 HS HM c0 HT
      go_wp2_with fail
      go_ret
      refine ⟨B, p, d, q, rfl, O4, s4, X4, fun i => if i = 0 then YtijbgdihnjnllaaGreat.nn 1 1 else YtijbgdihnjnllaaGreat.nn 1 2, fun _ _ => 0, fun _ _ => 0, fun _ _ => false, H4.out, ⟨fun i hi => ?_, fun i hi b hb => by simp⟩, ?_, HP4.out⟩
      · have h01 : i = 0 ∨ i = 1 := by omega
        rcases h01 with rfl | rfl
        · exact HT4.out.a
        · exact HT4.out.b
      · exact M4.out
end Go.Proofs.YtijbgdihnjnllaaGreat.V
