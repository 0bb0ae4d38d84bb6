/- bytes, Get, Image, walked. -/
import Derived.Test.YtlhkkelpombbiaaNewD
namespace Go.Proofs.Ytlhkkelpombbiaa
open Go.RowKit
set_option linter.unusedVariables false

def BytesP (s : List UInt8) (w : World) (e : Ending) (w' : World) : Prop := ∃ b, e = .returned (.slice (some ⟨b, 0, none⟩) 128 128) ∧ w.heap.size ≤ b ∧ w'.heap[b]? = some (.cells (bc s).toArray 80 (0, 0)) ∧ Below w.heap.size w w'
set_option maxHeartbeats 1000000 in
theorem bytes_any (s : List UInt8) (w : World) (h : s.length = 128) : Calls Try.prog 39 #[.agg (bc s).toArray] w (BytesP s w) := by
  have hl : (bc s).length = 128 := by rw [bc_len, h]
  have HE : Hid (∃ cs, bc s = cs) := ⟨_, rfl⟩
  obtain ⟨cs, he⟩ := HE.out
  have HX := Lib.hid he
  rw [he] at hl ⊢
  clear he HE
  go_enter Try.func39, Try.ntmps39
  go_wp2_with fail
  go_ret
  exact ⟨_, rfl, Nat.le_refl _, by rw [HX.out]; exact heap_alloc_new _ _, (Below.refl _ _).alloc (Nat.le_refl _) _⟩
theorem get_nil (n : Int) (w : World) : Calls Try.prog 14 #[.pointer none, .int .i64 n] w fun e w' => e = .returned (.tuple #[.slice none 0 0, .int .i64 1]) ∧ w = w' := by
  go_enter Try.func14, Try.ntmps14
  go_wp2_with fail
  refine (ready_nil _).mono ?_
  rintro e w' ⟨rfl, rfl⟩
  go_wp2_with fail
  go_ret2
  exact ⟨rfl, rfl⟩
theorem get_down {w : World} {d : Nat} {O : List Nat} {N : Nat} {s : DS} (n : Int) (h : Drv w d O N s) (hd : s.down = true) :
    Calls Try.prog 14 #[.pointer (some ⟨d, 0, none⟩), .int .i64 n] w fun e w' => e = .returned (.tuple #[.slice none 0 0, .int .i64 11]) ∧ w = w' := by
  obtain ⟨bn, cn, bl, cl, vs, rfl, h⟩ := h
  have hst := h.st
  rw [hd] at hst
  clear h hd
  have H := Lib.hid hst
  clear hst
  go_enter Try.func14, Try.ntmps14
  go_wp2_with fail
  refine (ready_any H.out).mono ?_
  rintro e w' ⟨rfl, rfl⟩
  go_wp2_with fail
  go_ret2
  exact ⟨rfl, rfl⟩
theorem get_range {w : World} {d : Nat} {O : List Nat} {N : Nat} {s : DS} (n : Int) (h : Drv w d O N s) (hd : s.down = false) (hn : inR N n = false) :
    Calls Try.prog 14 #[.pointer (some ⟨d, 0, none⟩), .int .i64 n] w fun e w' => e = .returned (.tuple #[.slice none 0 0, .int .i64 4]) ∧ w = w' := by
  obtain ⟨bn, cn, bl, cl, vs, rfl, h⟩ := h
  have hst := h.st
  rw [hd] at hst
  clear h hd
  have H := Lib.hid hst
  clear hst
  go_enter Try.func14, Try.ntmps14
  go_wp2_with fail
  refine (ready_any H.out).mono ?_
  rintro e w' ⟨rfl, rfl⟩
  go_wp2_with fail
  refine (has_any n H.out).mono ?_
  rintro e w' ⟨rfl, rfl⟩
  go_wp2_with fail
  go_ret2
  exact ⟨rfl, rfl⟩
def GetP (s : List UInt8) (w : World) (e : Ending) (w' : World) : Prop := ∃ b, e = .returned (.tuple #[.slice (some ⟨b, 0, none⟩) 128 128, .int .i64 0]) ∧ w.heap.size ≤ b ∧ w'.heap[b]? = some (.cells (bc s).toArray 80 (0, 0)) ∧ Below w.heap.size w w'
set_option maxHeartbeats 1000000 in
theorem get_ok {w : World} {d : Nat} {O : List Nat} {N : Nat} {s : DS} (k : Nat) (h : Drv w d O N s) (hd : s.down = false) {x : List UInt8} (hx : s.now[k]? = some x) :
    Calls Try.prog 14 #[.pointer (some ⟨d, 0, none⟩), .int .i64 k] w (GetP x w) := by
  obtain ⟨bn, cn, bl, cl, vs, rfl, h⟩ := h
  have hst := h.st
  rw [hd] at hst
  have hk : k < N := by have := (List.getElem?_eq_some_iff.1 hx).1; rw [h.ok.now] at this; exact this
  obtain ⟨hl, hr⟩ := h.now.all k x hx
  have hn1 := h.n1
  have hin : inR N k = true := by simp [inR, hk]
  have h0 := hst.c0
  clear h hd hx
  have H := Lib.hid hst
  have HR := Lib.hid hr
  have HL := Lib.hid hl
  clear hst hr hl
  go_enter Try.func14, Try.ntmps14
  go_wp2_with fail
  refine (ready_any H.out).mono ?_
  rintro e w' ⟨rfl, rfl⟩
  go_wp2_with fail
  refine (has_any k H.out).mono ?_
  rintro e w' ⟨rfl, rfl⟩
  go_wp2_with (first | (refine wpList_load_mid rfl 80 _ rfl bn _ rfl (bc x) _ HR.out Try.underlying80 rfl (by rw [bc_len, HL.out]; exact s67) ?_) | fail)
  refine (bytes_any x _ HL.out).mono ?_
  rintro e w' ⟨b, rfl, hb⟩
  have HB := Lib.hid hb
  clear hb
  go_wp2_with fail
  go_ret2
  exact ⟨b, rfl, HB.out⟩
end Go.Proofs.Ytlhkkelpombbiaa
