/- package verb: fits: what its closures do: take, path, handle; what each kind has, in plain words. -/
import Derived.Test.YtfignanjelebaaaYBare
namespace Go.Proofs.Ytfignanjelebaaa
open Go.RowKit
set_option linter.unusedVariables false
/-- The blocks that fits and its closures share. -/
structure St (base g k tk : Nat) (C : List Value) (ok : Bool) (w0 w : World) : Prop where
  row : w.heap[g]? = some (.cells C.toArray 26 (0, 0))
  okb : w.heap[k]? = some (.cells #[.bool ok] 4 (0, 0))
  fn : w.heap[tk]? = some (.cells #[.func (.func 66) #[] #[.pointer (some ⟨k, 0, none⟩)]] 111 (0, 0))
  bel : Below base w0 w
  lg : base ≤ g
  lk : base ≤ k
  gk : g ≠ k
  gt : g ≠ tk
  kt : k ≠ tk
theorem St.put {base g k tk : Nat} {C : List Value} {ok : Bool} {w0 w : World} (h : St base g k tk C ok w0 w) (o : Nat) (u : Value) (r : Bool) : St base g k tk (C.set o u) r w0 ((w.setCell ⟨k, 0, none⟩ (.bool r)).setCell ⟨g, o, none⟩ u) := by
  have h1 : (w.setCell ⟨k, 0, none⟩ (.bool r)).heap[g]? = some (.cells C.toArray 26 (0, 0)) := (Below.heap_setCell _ _ _ _ h.gk).trans h.row
  refine ⟨?_, ?_, ?_, ?_, h.lg, h.lk, h.gk, h.gt, h.kt⟩
  · rw [heap_set h1 o u]; simp
  · rw [Below.heap_setCell _ _ _ _ (fun e => h.gk e.symm), heap_set h.okb 0 (.bool r)]; simp
  · rw [Below.heap_setCell _ _ _ _ (fun e => h.gt e.symm), Below.heap_setCell _ _ _ _ (fun e => h.kt e.symm)]; exact h.fn
  · exact (h.bel.setCell (p := ⟨k, 0, none⟩) h.lk _).setCell (p := ⟨g, o, none⟩) h.lg _
def StQ (base g k tk : Nat) (C : List Value) (ok : Bool) (w0 : World) (e : Ending) (w' : World) : Prop := e = .returned (.tuple #[]) ∧ St base g k tk C ok w0 w'
set_option maxHeartbeats 1000000 in
theorem take_any {base g k tk o : Nat} {C : List Value} {ok : Bool} {w0 w : World} (n lo hi : Int) (h : St base g k tk C ok w0 w) (ho : C[o]? = some (.int .i64 n)) :
    Calls Try.prog 66 #[.pointer (some ⟨g, o, none⟩), .int .i64 lo, .int .i64 hi, .pointer (some ⟨k, 0, none⟩)] w (StQ base g k tk (C.set o (.int .i64 0)) (ok && decide (wthn n lo hi)) w0) := by
  have hck := cell_in h.okb 0
  have hfk := free_in h.okb 0
  have hcg := (cell_in h.row o).trans (by simpa using ho)
  have hfg := free_in h.row o
  have HS := Lib.hid h
  have HG : ∀ r, Hid ((w.setCell ⟨k, 0, none⟩ (.bool r)).heap[g]? = some (.cells C.toArray 26 (0, 0))) := fun r => (Below.heap_setCell _ _ _ _ h.gk).trans h.row
  clear h
  cases ok
  · have hc2 := (cell_in (HG false).out o).trans (by simpa using ho)
    have hf2 := free_in (HG false).out o
    clear HG
    go_enter Try.func66, Try.ntmps66
    go_wp2_with fail
    go_end0
    exact ⟨rfl, HS.out.put o _ _⟩
  · rw [Bool.true_and]
    have hc2 := (cell_in (HG (decide (wthn n lo hi))).out o).trans (by simpa using ho)
    have hf2 := free_in (HG (decide (wthn n lo hi))).out o
    clear HG
    go_enter Try.func66, Try.ntmps66
    go_wp2_with fail
    refine (within_any n lo hi _).mono ?_
    rintro e w1 ⟨rfl, rfl⟩
    go_wp2_with fail
    go_end0
    exact ⟨rfl, HS.out.put o _ _⟩
set_option maxHeartbeats 1000000 in
theorem path_any {base g k tk o : Nat} {C : List Value} {ok : Bool} {w0 w : World} (s : List UInt8) (h : St base g k tk C ok w0 w) (ho : C[o]? = some (.string ⟨s.toArray⟩)) :
    Calls Try.prog 67 #[.pointer (some ⟨g, o, none⟩), .pointer (some ⟨k, 0, none⟩)] w (StQ base g k tk (C.set o (.string ⟨#[]⟩)) (ok && decide (s.length ≤ 255)) w0) := by
  have hsz : (ByteArray.mk s.toArray).size = s.length := rfl
  have hck := cell_in h.okb 0
  have hfk := free_in h.okb 0
  have hcg := (cell_in h.row o).trans (by simpa using ho)
  have hfg := free_in h.row o
  have HS := Lib.hid h
  have HG : ∀ r, Hid ((w.setCell ⟨k, 0, none⟩ (.bool r)).heap[g]? = some (.cells C.toArray 26 (0, 0))) := fun r => (Below.heap_setCell _ _ _ _ h.gk).trans h.row
  clear h
  cases ok
  · have hc2 := (cell_in (HG false).out o).trans (by simpa using ho)
    have hf2 := free_in (HG false).out o
    clear HG
    go_enter Try.func67, Try.ntmps67
    go_wp2_with fail
    go_end0
    exact ⟨rfl, HS.out.put o _ _⟩
  · rw [Bool.true_and]
    by_cases hl : s.length ≤ 255
    · rw [decide_eq_true hl]
      have hl2 : (s.length : Int) ≤ 255 := by omega
      have hc2 := (cell_in (HG true).out o).trans (by simpa using ho)
      have hf2 := free_in (HG true).out o
      clear HG
      go_enter Try.func67, Try.ntmps67
      go_wp2_with fail
      go_end0
      exact ⟨rfl, HS.out.put o _ _⟩
    · rw [decide_eq_false hl]
      have hl2 : ¬ (s.length : Int) ≤ 255 := by omega
      have hc2 := (cell_in (HG false).out o).trans (by simpa using ho)
      have hf2 := free_in (HG false).out o
      clear HG
      go_enter Try.func67, Try.ntmps67
      go_wp2_with fail
      go_end0
      exact ⟨rfl, HS.out.put o _ _⟩
set_option maxHeartbeats 1000000 in
theorem handle_any {base g k tk : Nat} {C : List Value} {ok : Bool} {w0 w : World} (nd gn : Int) (h : St base g k tk C ok w0 w) (h7 : C[7]? = some (.int .i64 nd)) (h8 : C[8]? = some (.int .i64 gn)) :
    Calls Try.prog 68 #[.pointer (some ⟨tk, 0, none⟩), .pointer (some ⟨g, 0, none⟩)] w (StQ base g k tk ((C.set 7 (.int .i64 0)).set 8 (.int .i64 0)) ((ok && decide (wthn nd 0 1073741824)) && decide (wthn gn 0 1073741824)) w0) := by
  have hct := cell_in h.fn 0
  have HS := Lib.hid h
  clear h
  go_enter Try.func68, Try.ntmps68
  go_wp2_with fail
  refine (take_any nd 0 1073741824 HS.out h7).mono ?_
  rintro e w1 ⟨rfl, h1⟩
  have hct1 := cell_in h1.fn 0
  have H1 := Lib.hid h1
  clear h1 hct HS
  go_wp2_with fail
  refine (take_any gn 0 1073741824 H1.out (by rw [List.getElem?_set_ne (by decide)]; exact h8)).mono ?_
  rintro e w2 ⟨rfl, h2⟩
  have H2 := Lib.hid h2
  clear h2
  go_wp2_with fail
  go_end0
  exact ⟨rfl, H2.out⟩
/-- What fits asks, in plain words. -/
def Vb.fit (v : Vb) : Prop := hs v.k ≠ [] ∧ (v.p.length ≤ 255 ∧ v.o.length ≤ 255) ∧ v.mid ∧ v.own ∧ v.kind
instance (v : Vb) : Decidable v.fit := by unfold Vb.fit; infer_instance
theorem fit_of {v : Vb} {j : Int} {b : Bool} (P : Prop) [Decidable P] (h : v.fit ↔ P) (e : decide P = b) : decide v.fit = b := by rw [← e, decide_eq_decide]; exact h
end Go.Proofs.Ytfignanjelebaaa
