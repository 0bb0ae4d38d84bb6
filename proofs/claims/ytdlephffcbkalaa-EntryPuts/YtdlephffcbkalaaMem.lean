/- Words for memory: entries as values, slices of entries, slices of texts; '==' on entries. -/
import Derived.Test.YtdlephffcbkalaaWords
import Derived.Deep.MidRow
import Derived.Deep.WholeRow
import Derived.Laws.Rows
import Derived.Laws.StructEq
import Derived.Laws.ResultCell
import Derived.Deep.RegionLaw
import Derived.Deep.Cut
namespace Go.Proofs.Ytdlephffcbkalaa
open Go.RowKit
set_option linter.unusedVariables false

/-- An entry's two cells. -/
def rc (r : Rw) : List Value := [.string (bs r.1), .int .i64 r.2]
theorem rc_len (r : Rw) : (rc r).length = 2 := rfl
theorem rc_one (r : Rw) : ∀ v ∈ rc r, v.oneCell' = true := by
  intro v hv
  simp only [rc, List.mem_cons, List.not_mem_nil, or_false] at hv
  rcases hv with rfl | rfl <;> rfl
theorem Try.info23 : (Try.prog.info? 23).map (fun i => (i.zero, i.size, i.bytes)) = some (some (.agg #[.string (bs []), .int .i64 0]), 2, 24) := by kernel_rfl
theorem Try.info9 : (Try.prog.info? 9).map (fun i => (i.zero, i.size, i.bytes)) = some (some (.string (bs [])), 1, 16) := by kernel_rfl
theorem s23 : (Try.prog.info? 23).map (·.size) = some 2 := by kernel_rfl
theorem und23 : Try.prog.underlying 23 = some (.struct (Try.prog.fieldsOf 23)) := by kernel_rfl
theorem stood23 : Try.prog.stoodInHeld 23 = false := by kernel_rfl
theorem box1 (w : World) (o : Obj) : (w.alloc o).heap[w.heap.size]? = some o ∧ Below w.heap.size w (w.alloc o) ∧ (w.alloc o).heap.size = w.heap.size + 1 :=
  ⟨heap_alloc_new w o, box_below w o, by simp⟩
/-- A struct's fields compared, by type and offset alone. -/
def eqF (d : Nat) (xs ys : Array Value) : List (TypeId × Nat) → Sem Bool
  | [] => pure true
  | f :: fs => do
    let a ← part f.1 xs f.2
    let b ← part f.1 ys f.2
    let r ← Op.equalIn d f.1 a b
    if (!r) = true then pure false else eqF d xs ys fs
theorem eqFields_eq (d : Nat) (xs ys : Array Value) : ∀ fs : List Field, (fs.all fun f => decide (f.name ≠ "_")) = true → Op.eqFields d xs ys fs = eqF d xs ys (fs.map fun f => (f.type, f.offset))
  | [], _ => rfl
  | f :: fs, h => by
    simp only [List.all_cons, Bool.and_eq_true, decide_eq_true_eq] at h
    rw [Op.eqFields, if_pos h.1, List.map_cons, eqF, eqFields_eq d xs ys fs h.2]
theorem eqF_cons {d : Nat} {xs ys : Array Value} {t : TypeId} {o : Nat} {fs : List (TypeId × Nat)} {a b : Value} {r : Bool} {w : World} (hx : (part t xs o).run Try.prog w = .ok a w) (hy : (part t ys o).run Try.prog w = .ok b w) (he : (Op.equalIn d t a b).run Try.prog w = .ok r w) :
    (eqF d xs ys ((t, o) :: fs)).run Try.prog w = if r = true then (eqF d xs ys fs).run Try.prog w else .ok false w := by
  rw [eqF]
  simp only [Sem.run_bind, hx, hy, he, Result.andThen_ok]
  cases r <;> simp
theorem eqF_nil {d : Nat} {xs ys : Array Value} {w : World} : (eqF d xs ys []).run Try.prog w = .ok true w := by simp [eqF]
theorem part3 {xs : Array Value} {i : Nat} {v : Value} (h : xs[i]? = some v) (w : World) : (part 3 xs i).run Try.prog w = .ok v w := by
  simp [part, h]
theorem part9 {xs : Array Value} {i : Nat} {v : Value} (h : xs[i]? = some v) (w : World) : (part 9 xs i).run Try.prog w = .ok v w := by
  simp [part, h]
theorem ok23 : ((Try.prog.fieldsOf 23).toList.all fun f => decide (f.name ≠ "_")) = true := by kernel_rfl
theorem fields23 : (Try.prog.fieldsOf 23).toList.map (fun f => (f.type, f.offset)) = [(9, 0), (3, 1)] := by kernel_rfl
theorem eq23 (x y : Rw) (w : World) : (Op.equalIn 10000 23 (.agg (rc x).toArray) (.agg (rc y).toArray)).run Try.prog w = .ok (decide (x = y)) w := by
  rw [show (10000 : Nat) = 9999 + 1 from rfl, run_equalIn_agg w 9999 23 _ _ und23 stood23, eqFields_eq _ _ _ _ ok23, fields23]
  rw [eqF_cons (part9 (v := .string (bs x.1)) rfl w) (part9 (v := .string (bs y.1)) rfl w) (run_equalIn_string w 9998 9 _ _ Try.underlying9), eqF_cons (part3 (v := .int .i64 x.2) rfl w) (part3 (v := .int .i64 y.2) rfl w) (run_equalIn_int w 9998 3 .i64 .i64 _ _ Try.underlying3), eqF_nil]
  rw [bs_list, bs_list]
  obtain ⟨a, b⟩ := x
  obtain ⟨a', b'⟩ := y
  by_cases h1 : a = a'
  · by_cases h2 : b = b'
    · simp [h1, h2]
    · simp [h1, h2]
  · simp [h1]
/-- The same, the cells written out. -/
theorem eqR (a a' : List UInt8) (x x' : Int) (w : World) : (Op.equalIn 10000 23 (.agg #[.string (bs a), .int .i64 x]) (.agg #[.string (bs a'), .int .i64 x'])).run Try.prog w = .ok (decide ((a, x) = (a', x'))) w := eq23 (a, x) (a', x') w

/-- The slice '.slice A n c' holds the entries l; where it has any, they lie in a block below B. -/
structure Rws (w : World) (B : Nat) (A : Option Addr) (n c : Nat) (l : List Rw) : Prop where
  len : l.length = n
  cap : n ≤ c
  lim : c ≤ maxLen
  at_ : 0 < n → ∃ b off, A = some ⟨b, off, none⟩ ∧ b < B ∧ ∀ j r, l[j]? = some r → w.cell? ⟨b, off + j * 2, none⟩ = some (.string (bs r.1)) ∧ w.cell? ⟨b, off + j * 2 + 1, none⟩ = some (.int .i64 r.2)
section
variable {w w' : World} {B B' n c : Nat} {A : Option Addr} {l : List Rw}
theorem Rws.keep (h : Rws w B A n c l) (hk : ∀ p : Addr, p.block < B → w'.cell? p = w.cell? p) : Rws w' B A n c l :=
  ⟨h.len, h.cap, h.lim, fun hn => by
    obtain ⟨b, off, e, hb, hc⟩ := h.at_ hn
    exact ⟨b, off, e, hb, fun j r hj => ⟨(hk _ hb).trans (hc j r hj).1, (hk _ hb).trans (hc j r hj).2⟩⟩⟩
theorem Rws.more (h : Rws w B A n c l) (hB : B ≤ B') : Rws w B' A n c l :=
  ⟨h.len, h.cap, h.lim, fun hn => by
    obtain ⟨b, off, e, hb, hc⟩ := h.at_ hn
    exact ⟨b, off, e, by omega, hc⟩⟩
theorem Rws.below (h : Rws w B A n c l) (hb : Below B w w') : Rws w' B A n c l := h.keep fun _ hp => hb.cell hp
theorem Rws.nil_ (w : World) (B : Nat) : Rws w B none 0 0 [] := ⟨rfl, Nat.le_refl _, by decide, fun h => absurd h (by omega)⟩
theorem Rws.get (h : Rws w B A n c l) {k : Nat} (hk : k < n) : ∃ b off r, A = some ⟨b, off, none⟩ ∧ b < B ∧ l[k]? = some r ∧ w.cell? ⟨b, off + k * 2, none⟩ = some (.string (bs r.1)) ∧ w.cell? ⟨b, off + k * 2 + 1, none⟩ = some (.int .i64 r.2) := by
  obtain ⟨b, off, e, hb, hc⟩ := h.at_ (by omega)
  have hr : l[k]? = some (l[k]'(by rw [h.len]; exact hk)) := List.getElem?_eq_getElem _
  exact ⟨b, off, _, e, hb, hr, hc k _ hr⟩
theorem Rws.head (h : Rws w B A n c l) {s : Nat} (hs : s ≤ n) : Rws w B A s c (l.take s) :=
  ⟨by rw [List.length_take, h.len]; omega, Nat.le_trans hs h.cap, h.lim, fun hn => by
    obtain ⟨b, off, e, hb, hc⟩ := h.at_ (by omega)
    refine ⟨b, off, e, hb, fun j r hj => hc j r ?_⟩
    rw [List.getElem?_take] at hj
    split at hj
    · exact hj
    · cases hj⟩
end
/-- The slice '.slice A n c' holds the texts l. -/
structure Strs (w : World) (B : Nat) (A : Option Addr) (n c : Nat) (l : List (List UInt8)) : Prop where
  len : l.length = n
  cap : n ≤ c
  lim : c ≤ maxLen
  at_ : 0 < n → ∃ b off, A = some ⟨b, off, none⟩ ∧ b < B ∧ ∀ j, j < n → w.cell? ⟨b, off + j, none⟩ = some (.string (bs (l[j]?.getD [])))
section
variable {w w' : World} {B B' n c : Nat} {A : Option Addr} {l : List (List UInt8)}
theorem Strs.keep (h : Strs w B A n c l) (hk : ∀ p : Addr, p.block < B → w'.cell? p = w.cell? p) : Strs w' B A n c l :=
  ⟨h.len, h.cap, h.lim, fun hn => by
    obtain ⟨b, off, e, hb, hc⟩ := h.at_ hn
    exact ⟨b, off, e, hb, fun j hj => (hk _ hb).trans (hc j hj)⟩⟩
theorem Strs.more (h : Strs w B A n c l) (hB : B ≤ B') : Strs w B' A n c l :=
  ⟨h.len, h.cap, h.lim, fun hn => by
    obtain ⟨b, off, e, hb, hc⟩ := h.at_ hn
    exact ⟨b, off, e, by omega, hc⟩⟩
theorem Strs.below (h : Strs w B A n c l) (hb : Below B w w') : Strs w' B A n c l := h.keep fun _ hp => hb.cell hp
theorem Strs.nil_ (w : World) (B : Nat) : Strs w B none 0 0 [] := ⟨rfl, Nat.le_refl _, by decide, fun h => absurd h (by omega)⟩
theorem Strs.cell (h : Strs w B A n c l) {k : Nat} (hk : k < n) : ∃ b off, A = some ⟨b, off, none⟩ ∧ b < B ∧ w.cell? ⟨b, off + k, none⟩ = some (.string (bs (l[k]?.getD []))) := by
  obtain ⟨b, off, e, hb, hc⟩ := h.at_ (by omega)
  exact ⟨b, off, e, hb, hc k hk⟩
end
theorem flat_get {α : Type} {f : α → List Value} {k : Nat} : ∀ {l : List α}, (∀ x ∈ l, (f x).length = k) → ∀ {i j : Nat} {x : α}, l[i]? = some x → j < k → (l.flatMap f)[i * k + j]? = (f x)[j]? := by
  intro l
  induction l with
  | nil => intro _ i j x h; simp at h
  | cons a r ih =>
    intro hk i j x h hj
    have ha : (f a).length = k := hk a (by simp)
    rw [List.flatMap_cons]
    cases i with
    | zero =>
      simp at h
      subst h
      rw [Nat.zero_mul, Nat.zero_add, List.getElem?_append_left (by omega)]
    | succ i =>
      rw [List.getElem?_append_right (by rw [ha, Nat.succ_mul]; omega), ha, show (i + 1) * k + j - k = i * k + j by rw [Nat.succ_mul]; omega]
      exact ih (fun x hx => hk x (by simp [hx])) (by simpa using h) hj
/-- A slice of the call's own that holds entries. -/
def OwnR (w : World) (base : Nat) (v : Value) (l : List Rw) : Prop := w.ownsRow base 23 2 v l.length (l.flatMap rc)
/-- A slice of the call's own that holds texts. -/
def OwnS (w : World) (base : Nat) (v : Value) (l : List (List UInt8)) : Prop := w.ownsRow base 9 1 v l.length (l.map fun s => .string (bs s))
theorem OwnR.rws {w : World} {base : Nat} {v : Value} {l : List Rw} (h : OwnR w base v l) : ∃ A c, v = .slice A l.length c ∧ Rws w w.heap.size A l.length c l := by
  rcases h.2 with ⟨rfl, h0⟩ | ⟨g, cap, cur, rfl, hg, hh, hn, hm, hs, ht⟩
  · obtain rfl : l = [] := List.length_eq_zero_iff.1 h0
    exact ⟨none, 0, rfl, Rws.nil_ _ _⟩
  · refine ⟨_, cap, rfl, ⟨rfl, hn, hm, fun h0 => ⟨g, 0, rfl, (Array.getElem?_eq_some_iff.1 hh).1, fun j r hj => ?_⟩⟩⟩
    have hjl : j < l.length := (List.getElem?_eq_some_iff.1 hj).1
    have hget : ∀ i, i < 2 → w.cell? ⟨g, j * 2 + i, none⟩ = (rc r)[i]? := fun i hi => by
      rw [cell_in hh]
      have : cur.toList[j * 2 + i]? = (l.flatMap rc)[j * 2 + i]? := by
        conv => rhs; rw [← ht]
        rw [List.getElem?_take, if_pos (by omega)]
      rw [← Array.getElem?_toList, this, flat_get (fun x _ => rc_len x) hj hi]
    rw [Nat.zero_add]
    exact ⟨hget 0 (by omega), hget 1 (by omega)⟩
theorem OwnR.below {w w' : World} {base : Nat} {v : Value} {l : List Rw} (h : OwnR w base v l) (hb : Below w.heap.size w w') : OwnR w' base v l :=
  ownsRow_keep h fun b hb' => hb.block b (h.lt b hb').2
theorem OwnR.nil_ (w : World) (base : Nat) : OwnR w base (.slice none 0 0) [] := World.ownsRow_nil _ _ _ _
theorem OwnS.strs {w : World} {base : Nat} {v : Value} {l : List (List UInt8)} (h : OwnS w base v l) : ∃ A c, v = .slice A l.length c ∧ Strs w w.heap.size A l.length c l := by
  rcases h.2 with ⟨rfl, h0⟩ | ⟨g, cap, cur, rfl, hg, hh, hn, hm, hs, ht⟩
  · obtain rfl : l = [] := List.length_eq_zero_iff.1 h0
    exact ⟨none, 0, rfl, Strs.nil_ _ _⟩
  · refine ⟨_, cap, rfl, ⟨rfl, hn, hm, fun h0 => ⟨g, 0, rfl, (Array.getElem?_eq_some_iff.1 hh).1, fun j hj => ?_⟩⟩⟩
    rw [Nat.zero_add, cell_in hh]
    have e : cur.toList[j]? = (l.map fun s => Value.string (bs s))[j]? := by
      rw [← ht, List.getElem?_take, if_pos (by omega)]
    rw [← Array.getElem?_toList, e]
    simp [hj]
theorem OwnS.below {w w' : World} {base : Nat} {v : Value} {l : List (List UInt8)} (h : OwnS w base v l) (hb : Below w.heap.size w w') : OwnS w' base v l :=
  ownsRow_keep h fun b hb' => hb.block b (h.lt b hb').2
theorem OwnS.nil_ (w : World) (base : Nat) : OwnS w base (.slice none 0 0) [] := World.ownsRow_nil _ _ _ _
/-- One entry more. -/
theorem appR_run {w : World} {base : Nat} {v : Value} {l : List Rw} (r : Rw) (hown : OwnR w base v l) (hk : l.length ≤ 5000000000000) (hbase : base ≤ w.heap.size) :
    ∃ v' w', (Builtin.append_ #[35, 35] 35 #[v, .slice (some ⟨w.heap.size, 0, none⟩) 1 1]).run Try.prog (w.alloc (.cells #[.string (bs r.1), .int .i64 r.2] 23)) = .ok v' w' ∧ OwnR w' base v' (l ++ [r]) ∧ Below base w w' ∧ w.grownBy w' v.ownBlock := by
  obtain ⟨i0, hi, hz0, hz1, hz2⟩ := info_parts Try.info23
  obtain ⟨v', w', hr, h2, h3, _⟩ := run_append_own (P := Try.prog) (w.alloc (.cells #[.string (bs r.1), .int .i64 r.2] 23)) base 35 35 23 i0 _ 2 24 Try.underlying35 hi hz0 hz1 hz2 rfl (by decide) v l.length (l.flatMap rc) (World.ownsRow.alloc hown _) ⟨w.heap.size, 0, none⟩ 1 1 (rc r) (by rfl)
    (fun j u hu => by
      rw [Addr.add_lit, World.cell?_alloc_mark, Nat.zero_add]
      match j, hu with
      | 0, hu => exact hu
      | 1, hu => exact hu
      | j + 2, hu => simp [rc] at hu) (rc_one r) (by unfold maxLen; omega) (by omega) (by simp; omega)
  refine ⟨v', w', hr, ?_, ((Below.refl base w).alloc hbase _).grown h3 (by simp; omega) fun j hj => (World.ownsRow.lt hown j hj).1, ?_⟩
  · unfold OwnR
    rw [List.flatMap_append, List.length_append]
    simpa using h2
  · refine ⟨h3.os, h3.tape, h3.output, ?_, fun k hk hn => ?_⟩
    · have := h3.size
      simp at this
      omega
    · rw [h3.block k (by simp; omega) hn, Below.heap_alloc _ _ _ hk]
/-- One text more. -/
theorem appS_run {w : World} {base : Nat} {v : Value} {l : List (List UInt8)} (s : List UInt8) (hown : OwnS w base v l) (hk : l.length ≤ 5000000000000) (hbase : base ≤ w.heap.size) :
    ∃ v' w', (Builtin.append_ #[45, 45] 45 #[v, .slice (some ⟨w.heap.size, 0, none⟩) 1 1]).run Try.prog (w.alloc (.cells #[.string (bs s)] 9)) = .ok v' w' ∧ OwnS w' base v' (l ++ [s]) ∧ Below base w w' := by
  obtain ⟨i0, hi, hz0, hz1, hz2⟩ := info_parts Try.info9
  obtain ⟨v', w', hr, h2, h3, _⟩ := run_append_own (P := Try.prog) (w.alloc (.cells #[.string (bs s)] 9)) base 45 45 9 i0 _ 1 16 Try.underlying45 hi hz0 hz1 hz2 rfl (by decide) v l.length (l.map fun s => .string (bs s)) (World.ownsRow.alloc hown _) ⟨w.heap.size, 0, none⟩ 1 1 [.string (bs s)] (by rfl)
    (fun j u hu => by
      rw [Addr.add_lit, World.cell?_alloc_mark, Nat.zero_add]
      match j, hu with
      | 0, hu => exact hu
      | j + 1, hu => simp at hu) (fun u hu => by simp only [List.mem_cons, List.not_mem_nil, or_false] at hu; subst hu; rfl) (by unfold maxLen; omega) (by omega) (by simp; omega)
  refine ⟨v', w', hr, ?_, ((Below.refl base w).alloc hbase _).grown h3 (by simp; omega) fun j hj => (World.ownsRow.lt hown j hj).1⟩
  unfold OwnS
  rw [List.map_append, List.length_append]
  simpa using h2
end Go.Proofs.Ytdlephffcbkalaa
