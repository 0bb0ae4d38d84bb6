/- The document's drive in memory; New, spark, Fuse, Flush, find, Get, Sure, walked. -/
import Derived.Test.YticbfjflhojolaaAwake
import Derived.Test.YticbfjflhojolaaRefPlain
import Derived.BigQuiet
import Derived.Deep.QuietTactic
namespace Go.Proofs.Yticbfjflhojolaa
open Go.RowKit
set_option linter.unusedVariables false

/-- One that was written, as it lies in memory. -/
def dc (d : Done) : List Value := [.int .i64 (d.at_ : Int), .string ⟨d.data.toArray⟩, .bool d.sure]
theorem dc_len (d : Done) : (dc d).length = 3 := rfl
theorem dc_one (d : Done) : ∀ v ∈ dc d, v.oneCell' = true := by
  intro v hv
  simp only [dc, List.mem_cons, List.not_mem_nil, or_false] at hv
  rcases hv with rfl | rfl | rfl <;> rfl
def RSt (w : World) (r N : Nat) (v : Value) (fuse : Int) (dead : Bool) : Prop := w.heap[r]? = some (.cells #[.int .i64 (N : Int), v, .int .i64 fuse, .bool dead] 65 (0, 0))
section
variable {w w' : World} {r N : Nat} {v : Value} {fuse : Int} {dead : Bool}
theorem RSt.c0 (h : RSt w r N v fuse dead) : w.cell? ⟨r, 0, none⟩ = some (.int .i64 (N : Int)) := cell_of h 0
theorem RSt.c1 (h : RSt w r N v fuse dead) : w.cell? ⟨r, 1, none⟩ = some v := cell_of h 1
theorem RSt.c2 (h : RSt w r N v fuse dead) : w.cell? ⟨r, 2, none⟩ = some (.int .i64 fuse) := cell_of h 2
theorem RSt.c3 (h : RSt w r N v fuse dead) : w.cell? ⟨r, 3, none⟩ = some (.bool dead) := cell_of h 3
theorem RSt.fr (h : RSt w r N v fuse dead) (j : Nat) : w.frozen? ⟨r, j, none⟩ = false := frozen_of h j
theorem RSt.lt (h : RSt w r N v fuse dead) : r < w.heap.size := (Array.getElem?_eq_some_iff.1 h).1
end
structure RAt (w : World) (r N : Nat) (q : RD) (v : Value) : Prop where
  st : RSt w r N v q.fuse q.dead
  own : w.ownsRow 0 71 3 v q.list.length (q.list.flatMap dc)
  lo : -1 ≤ q.fuse
  hi : q.fuse ≤ 9223372036854775807
  ne : v.ownBlock ≠ some r
  n1 : N ≤ 1024
def rowns (r : Nat) (v : Value) : List Nat := r :: v.ownBlock.toList
def RDrv (w : World) (r : Nat) (O : List Nat) (N : Nat) (q : RD) : Prop := ∃ v, O = rowns r v ∧ RAt w r N q v
def RDid (w : World) (r : Nat) (O : List Nat) (N : Nat) (q' : RD) (w' : World) : Prop := ∃ O', RDrv w' r O' N q' ∧ Chg O w w' ∧ ∀ b ∈ O', b ∈ O ∨ w.heap.size ≤ b
section
variable {w w' : World} {r N : Nat} {q q' : RD} {v : Value} {O O' : List Nat}
theorem RAt.keep (h : RAt w r N q v) (he : ∀ b ∈ rowns r v, w'.heap[b]? = w.heap[b]?) : RAt w' r N q v :=
  ⟨(he r (by simp [rowns])).trans h.st, ownsRow_keep h.own fun b hb => he b (by simp [rowns, hb]), h.lo, h.hi, h.ne, h.n1⟩
theorem RAt.lt (h : RAt w r N q v) : ∀ b ∈ rowns r v, b < w.heap.size := by
  intro b hb
  simp only [rowns, List.mem_cons, Option.mem_toList] at hb
  rcases hb with rfl | hb
  · exact h.st.lt
  · exact (h.own.lt b hb).2
theorem RDrv.keep (h : RDrv w r O N q) (he : ∀ b ∈ O, w'.heap[b]? = w.heap[b]?) : RDrv w' r O N q := by
  obtain ⟨v, rfl, h⟩ := h
  exact ⟨v, rfl, h.keep he⟩
theorem RDrv.lt (h : RDrv w r O N q) : ∀ b ∈ O, b < w.heap.size := by
  obtain ⟨v, rfl, h⟩ := h
  exact h.lt
theorem RDrv.apart (h : RDrv w r O N q) (hc : Chg O' w w') (hO : ∀ b ∈ O, b ∉ O') : RDrv w' r O N q := h.keep fun b hb => hc.block b (h.lt b hb) (hO b hb)
theorem RAt.slice (h : RAt w r N q v) : ∃ A c, v = .slice A q.list.length c ∧ q.list.length ≤ c ∧ c ≤ maxLen := by
  rcases h.own.2 with ⟨rfl, h0⟩ | ⟨g, cap, cur, rfl, _, hg, hn, hm, _⟩
  · exact ⟨none, 0, by rw [h0], by omega, by decide⟩
  · exact ⟨_, _, rfl, hn, hm⟩
/-- The struct alone has changed. -/
theorem RAt.turn (h : RAt w r N q v) (hf : Chg [r] w w') (hst : RSt w' r N v q'.fuse q'.dead) (e : q'.list = q.list) (lo : -1 ≤ q'.fuse) (hi : q'.fuse ≤ 9223372036854775807) : RAt w' r N q' v :=
  ⟨hst, by rw [e]; exact ownsRow_keep h.own fun b hb => hf.block _ (h.own.lt b hb).2 (by intro hm; simp at hm; exact h.ne (by rw [← hm]; exact hb)), lo, hi, h.ne, h.n1⟩
end
def RNewP (N : Nat) (w : World) (e : Ending) (w' : World) : Prop := ∃ r O, e = .returned (.tuple #[.pointer (some ⟨r, 0, none⟩), .int .i64 0]) ∧ RDrv w' r O N newR ∧ (∀ b ∈ O, w.heap.size ≤ b) ∧ Below w.heap.size w w'
theorem rnew_bad (n : Int) (w : World) (h : n < 64 ∨ 1024 < n) : Calls Try.prog 10 #[.int .i64 n] w fun e w' => e = .returned (.tuple #[.pointer none, .int .i64 1]) ∧ w = w' := by
  rcases h with h | h
  · have h1 : decide (n < 64) = true := by simpa using h
    go_enter Try.func10, Try.ntmps10
    go_wp2
    go_ret2
    exact ⟨rfl, rfl⟩
  · have h1 : decide (n < 64) = false := by simp; omega
    have h2 : decide (1024 < n) = true := by simp; omega
    go_enter Try.func10, Try.ntmps10
    go_wp2
    go_ret2
    exact ⟨rfl, rfl⟩
theorem rnew_any (N : Nat) (w : World) (h0 : 64 ≤ N) (h1 : N ≤ 1024) : Calls Try.prog 10 #[.int .i64 N] w (RNewP N w) := by
  have g1 : decide ((N : Int) < 64) = false := by simp; omega
  have g2 : decide (1024 < (N : Int)) = false := by simp; omega
  go_enter Try.func10, Try.ntmps10
  go_wp2
  go_ret2
  refine ⟨_, _, rfl, ⟨.slice none 0 0, rfl, heap_alloc_new _ _, World.ownsRow_nil _ _ _ _, by simp [newR], by simp [newR], by simp [Value.ownBlock], h1⟩, ?_, (Below.refl _ _).alloc (Nat.le_refl _) _⟩
  intro b hb
  simp [rowns, Value.ownBlock] at hb
  omega
def RSp (w : World) (r N : Nat) (q' : RD) (v : Value) (w' : World) : Prop := RAt w' r N q' v ∧ Chg [r] w w'
theorem spark_any {w : World} {r N : Nat} {q : RD} {v : Value} (h : RAt w r N q v) :
    Calls Try.prog 29 #[.pointer (some ⟨r, 0, none⟩)] w fun e w' => e = .returned (.bool q.pow) ∧ RSp w r N q.spark v w' := by
  have hst := h.st
  have h2 := hst.c2
  have h3 := hst.c3
  have f2 := hst.fr 2
  have f3 := hst.fr 3
  have H := Lib.hid h
  have hlo := h.lo
  have hhi := h.hi
  clear hst h
  by_cases h0 : q.fuse = 0
  · have HE : Hid (q.spark = { q with dead := true }) := by show _ = _; simp [RD.spark, h0]
    have HP : Hid (q.pow = false) := by show _ = _; simp [RD.pow, h0]
    have t1 : (q.fuse == 0) = true := by simpa using h0
    rw [HE.out, HP.out]
    rw [h0] at h2
    clear h0 t1
    go_enter Try.func29, Try.ntmps29
    go_wp2
    go_ret
    have hc : Chg [r] w (w.setCell ⟨r, 3, none⟩ (.bool true)) := (Chg.refl _ _).setCell (.inl (by simp)) _
    exact ⟨rfl, H.out.turn hc (heap_setCell_at H.out.st _) rfl H.out.lo H.out.hi, hc⟩
  · have t1 : (q.fuse == 0) = false := by simpa using h0
    have HP : Hid (q.pow = true) := by show _ = _; simp [RD.pow, h0]
    rw [HP.out]
    by_cases hpos : 0 < q.fuse
    · have HE : Hid (q.spark = { q with fuse := q.fuse - 1 }) := by show _ = _; simp [RD.spark, h0, hpos]
      rw [HE.out]
      have t2 : decide (0 < q.fuse) = true := by simpa using hpos
      go_enter Try.func29, Try.ntmps29
      go_wp2
      go_ret
      have hc : Chg [r] w (w.setCell ⟨r, 2, none⟩ (.int .i64 (q.fuse - 1))) := (Chg.refl _ _).setCell (.inl (by simp)) _
      exact ⟨rfl, H.out.turn hc (heap_setCell_at H.out.st _) rfl (by show -1 ≤ q.fuse - 1; omega) (by show q.fuse - 1 ≤ _; omega), hc⟩
    · have HE : Hid (q.spark = q) := by show _ = _; simp [RD.spark, h0, hpos]
      rw [HE.out]
      have t2 : decide (0 < q.fuse) = false := by simpa using hpos
      go_enter Try.func29, Try.ntmps29
      go_wp2
      go_ret
      exact ⟨rfl, H.out, Chg.refl _ _⟩
theorem rfuse_any {w : World} {r : Nat} {O : List Nat} {N : Nat} {q : RD} (n : Int) (h : RDrv w r O N q) (h2 : n ≤ 9223372036854775807) :
    Calls Try.prog 17 #[.pointer (some ⟨r, 0, none⟩), .int .i64 n] w fun e w' => e = .returned (.tuple #[]) ∧ RDid w r O N (q.fuse_ n) w' := by
  obtain ⟨v, rfl, h⟩ := h
  have hst := h.st
  have c2 := hst.c2
  have f2 := hst.fr 2
  have H := Lib.hid h
  clear hst h
  by_cases hn : n < 0
  · have HE : Hid (q.fuse_ n = { q with fuse := -1 }) := by show _ = _; simp [RD.fuse_, hn]
    rw [HE.out]
    have t : decide (n < 0) = true := by simpa using hn
    go_enter Try.func17, Try.ntmps17
    go_wp2
    go_end0
    have hc : Chg [r] w ((w.setCell ⟨r, 2, none⟩ (.int .i64 n)).setCell ⟨r, 2, none⟩ (.int .i64 (-1))) := ((Chg.refl _ _).setCell (.inl (by simp)) _).setCell (.inl (by simp)) _
    exact ⟨rfl, _, ⟨v, rfl, H.out.turn hc (heap_setCell_at (heap_setCell_at H.out.st _) _) rfl (by simp) (by simp)⟩, hc.mono (fun b hb => .inl (by simp at hb; simp [rowns, hb])), fun b hb => .inl hb⟩
  · have HE : Hid (q.fuse_ n = { q with fuse := n }) := by show _ = _; simp [RD.fuse_, hn]
    rw [HE.out]
    have t : decide (n < 0) = false := by simpa using hn
    go_enter Try.func17, Try.ntmps17
    go_wp2
    go_end0
    have hc : Chg [r] w (w.setCell ⟨r, 2, none⟩ (.int .i64 n)) := (Chg.refl _ _).setCell (.inl (by simp)) _
    exact ⟨rfl, _, ⟨v, rfl, H.out.turn hc (heap_setCell_at H.out.st _) rfl (by show -1 ≤ n; omega) h2⟩, hc.mono (fun b hb => .inl (by simp at hb; simp [rowns, hb])), fun b hb => .inl hb⟩
end Go.Proofs.Yticbfjflhojolaa
