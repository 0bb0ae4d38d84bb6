/- The drive's struct in memory; ready, has, spend, Sectors, Fuse, walked. -/
import Derived.Test.YtlhkkelpombbiaaRows
import Derived.Test.YtlhkkelpombbiaaPlain
import Derived.Test.YtlhkkelpombbiaaMem
namespace Go.Proofs.Ytlhkkelpombbiaa
open Go.RowKit
set_option linter.unusedVariables false

theorem retb {a b : Bool} (h : a = b) : Ending.returned (.bool a) = .returned (.bool b) := by rw [h]
theorem reti {k : IntKind} {a b : Int} (h : a = b) : Ending.returned (.int k a) = .returned (.int k b) := by rw [h]
/-- The struct. -/
def St (w : World) (d : Nat) (vn vl vs : Value) (f : Bool) (left : Int) (dn : Bool) : Prop :=
  w.heap[d]? = some (.cells #[vn, vl, vs, .bool f, .int .i64 left, .bool dn] 84 (0, 0))
section
variable {w w' : World} {d : Nat} {vn vl vs : Value} {f : Bool} {left : Int} {dn : Bool}
theorem St.c0 (h : St w d vn vl vs f left dn) : w.cell? ⟨d, 0, none⟩ = some vn := cell_of h 0
theorem St.c1 (h : St w d vn vl vs f left dn) : w.cell? ⟨d, 1, none⟩ = some vl := cell_of h 1
theorem St.c2 (h : St w d vn vl vs f left dn) : w.cell? ⟨d, 2, none⟩ = some vs := cell_of h 2
theorem St.c3 (h : St w d vn vl vs f left dn) : w.cell? ⟨d, 3, none⟩ = some (.bool f) := cell_of h 3
theorem St.c4 (h : St w d vn vl vs f left dn) : w.cell? ⟨d, 4, none⟩ = some (.int .i64 left) := cell_of h 4
theorem St.c5 (h : St w d vn vl vs f left dn) : w.cell? ⟨d, 5, none⟩ = some (.bool dn) := cell_of h 5
theorem St.fr (h : St w d vn vl vs f left dn) (j : Nat) : w.frozen? ⟨d, j, none⟩ = false := frozen_of h j
theorem St.lt (h : St w d vn vl vs f left dn) : d < w.heap.size := (Array.getElem?_eq_some_iff.1 h).1
end
theorem ready_nil (w : World) : Calls Try.prog 37 #[.pointer none] w fun e w' => e = .returned (.int .i64 1) ∧ w = w' := by
  go_enter Try.func37, Try.ntmps37
  go_wp2
  go_ret
  exact ⟨rfl, rfl⟩
theorem ready_any {w : World} {d : Nat} {vn vl vs : Value} {f : Bool} {left : Int} {dn : Bool} (h : St w d vn vl vs f left dn) :
    Calls Try.prog 37 #[.pointer (some ⟨d, 0, none⟩)] w fun e w' => e = .returned (.int .i64 (if dn then 11 else 0)) ∧ w = w' := by
  have h5 := h.c5
  clear h
  cases dn
  all_goals
    go_enter Try.func37, Try.ntmps37
    go_wp2
    go_ret
    exact ⟨rfl, rfl⟩
theorem has_any {w : World} {d N cn : Nat} {A : Option Addr} {vl vs : Value} {f : Bool} {left : Int} {dn : Bool} (n : Int) (h : St w d (.slice A N cn) vl vs f left dn) :
    Calls Try.prog 38 #[.pointer (some ⟨d, 0, none⟩), .int .i64 n] w fun e w' => e = .returned (.bool (inR N n)) ∧ w = w' := by
  have h0 := h.c0
  clear h
  by_cases h1 : 0 ≤ n
  · have h2 : inR N n = decide (n < N) := by simp [inR, h1]
    rw [h2]
    clear h2
    go_enter Try.func38, Try.ntmps38
    go_wp2
    go_ret
    exact ⟨rfl, rfl⟩
  · have h2 : inR N n = false := by simp [inR, h1]
    have h3 : decide (0 ≤ n) = false := by simpa using h1
    rw [h2]
    clear h2
    go_enter Try.func38, Try.ntmps38
    go_wp2
    go_ret
    exact ⟨rfl, rfl⟩
theorem sectors_nil (w : World) : Calls Try.prog 59 #[.pointer none] w fun e w' => e = .returned (.int .i64 0) ∧ w = w' := by
  go_enter Try.func59, Try.ntmps59
  go_wp2
  go_ret
  exact ⟨rfl, rfl⟩
theorem sectors_any {w : World} {d N cn : Nat} {A : Option Addr} {vl vs : Value} {f : Bool} {left : Int} {dn : Bool} (h : St w d (.slice A N cn) vl vs f left dn) :
    Calls Try.prog 59 #[.pointer (some ⟨d, 0, none⟩)] w fun e w' => e = .returned (.int .i64 N) ∧ w = w' := by
  have h0 := h.c0
  clear h
  go_enter Try.func59, Try.ntmps59
  go_wp2
  go_ret
  exact ⟨rfl, rfl⟩
theorem fuse_nil (n : Int) (w : World) : Calls Try.prog 19 #[.pointer none, .int .i64 n] w fun e w' => e = .returned (.tuple #[]) ∧ w = w' := by
  go_enter Try.func19, Try.ntmps19
  go_wp2
  exact bodyPost_ret (v := .tuple #[]) (by simp [results, Try.results19, go_sem]) rfl ⟨rfl, rfl⟩
def FuseP (w : World) (d : Nat) (vn vl vs : Value) (f : Bool) (left : Int) (dn : Bool) (w' : World) : Prop := St w' d vn vl vs f left dn ∧ Chg [d] w w'
theorem fuse_any {w : World} {d : Nat} {vn vl vs : Value} {f : Bool} {left : Int} {dn : Bool} (n : Int) (h : St w d vn vl vs f left dn) :
    Calls Try.prog 19 #[.pointer (some ⟨d, 0, none⟩), .int .i64 n] w fun e w' => e = .returned (.tuple #[]) ∧ FuseP w d vn vl vs (decide (0 ≤ n)) n dn w' := by
  have h3 := h.c3
  have h4 := h.c4
  have f3 := h.fr 3
  have f4 := h.fr 4
  have H := Lib.hid h
  clear h
  go_enter Try.func19, Try.ntmps19
  go_wp2
  go_end0
  refine ⟨rfl, ?_, ((Chg.refl _ _).setCell (.inl (by simp)) _).setCell (.inl (by simp)) _⟩
  exact heap_setCell_at (heap_setCell_at H.out _) _
theorem spend_free {w : World} {d : Nat} {vn vl vs : Value} {left : Int} {dn : Bool} (h : St w d vn vl vs false left dn) :
    Calls Try.prog 50 #[.pointer (some ⟨d, 0, none⟩)] w fun e w' => e = .returned (.bool true) ∧ w = w' := by
  have h3 := h.c3
  clear h
  go_enter Try.func50, Try.ntmps50
  go_wp2
  go_ret
  exact ⟨rfl, rfl⟩
theorem spend_fused {w : World} {d : Nat} {vn vl vs : Value} {left : Int} {dn : Bool} (h : St w d vn vl vs true left dn) (hl : 0 ≤ left) (hh : left ≤ 9223372036854775807) :
    Calls Try.prog 50 #[.pointer (some ⟨d, 0, none⟩)] w fun e w' => e = .returned (.bool (!(left == 0))) ∧ FuseP w d vn vl vs true (left - 1) (left == 0) w' := by
  have h3 := h.c3
  have h4 := h.c4
  have h5 := h.c5
  have f5 := h.fr 5
  have f4 := h.fr 4
  have H := Lib.hid h
  clear h
  go_enter Try.func50, Try.ntmps50
  go_wp2
  go_ret
  refine ⟨rfl, ?_, ((Chg.refl _ _).setCell (.inl (by simp)) _).setCell (.inl (by simp)) _⟩
  exact heap_setCell_at (heap_setCell_at H.out _) _
end Go.Proofs.Ytlhkkelpombbiaa
