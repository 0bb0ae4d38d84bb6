/- The arguments, opened: a []Step that came in. -/
import Derived.Test.YticbfjflhojolaaPlay
import Derived.Test.YticbfjflhojolaaArgs
import Derived.Deep.Slices
import Derived.Deep.Fields
namespace Go.Proofs.Yticbfjflhojolaa
open Go.ChangeShapes Go.WideShapes Go.ChangeAt Go.RowKit Go.Deep
set_option linter.unusedVariables false

/-- A list out of what holds of each place. -/
theorem list_of {α : Type} {R : Nat → α → Prop} : ∀ {n : Nat}, (∀ i, i < n → ∃ x, R i x) → ∃ l : List α, l.length = n ∧ ∀ i x, l[i]? = some x → R i x
  | 0, _ => ⟨[], rfl, fun i x h => by simp at h⟩
  | n + 1, h => by
    obtain ⟨l, hl, hR⟩ := list_of (n := n) fun i hi => h i (by omega)
    obtain ⟨y, hy⟩ := h n (by omega)
    refine ⟨l ++ [y], by simp [hl], fun i x hx => ?_⟩
    rw [List.getElem?_append] at hx
    split at hx
    · exact hR i x hx
    · rename_i hi
      have hi' : i - l.length = 0 := by
        rcases Nat.eq_zero_or_pos (i - l.length) with e | e
        · exact e
        · rw [List.getElem?_eq_none (by simp; omega)] at hx; cases hx
      rw [hi'] at hx
      cases hx
      have : i = n := by omega
      rw [this]
      exact hy
theorem sum_range {α : Type} {f : α → Nat} : ∀ {l : List α} {g : Nat → Nat}, (∀ i x, l[i]? = some x → f x ≤ g i) → (l.map f).sum ≤ ((List.range l.length).map g).sum
  | [], _, _ => by simp
  | a :: r, g, h => by
    rw [List.length_cons, List.range_succ_eq_map, List.map_cons, List.map_cons, List.sum_cons, List.sum_cons, List.map_map]
    have h1 := h 0 a rfl
    have h2 := sum_range (l := r) (g := g ∘ Nat.succ) fun i x hx => h (i + 1) x (by simpa using hx)
    omega
theorem bulkAll {H : Type} : ∀ (l : List (DataW H)), Rows.uptoBulkAll l = (l.map Rows.uptoBulk).sum
  | [] => by simp [Rows.uptoBulkAll]
  | d :: r => by simp [Rows.uptoBulkAll, bulkAll r]
theorem bulk_pos {H : Type} (d : DataW H) : 1 ≤ Rows.uptoBulk d := by
  cases d with
  | lit l => cases l <;> simp [Rows.uptoBulk]
  | _ => simp [Rows.uptoBulk]
section
variable {H : Type} {enc : TypeId × Value → H} {W : World}
/-- The cells of a struct of one-cell fields, and how each reads. -/
theorem open_fields {t : TypeId} {fs : Array Field} {n k : Nat} {a : Addr} {cs : List Value} {x : DataW H × List MemPlace} (hu : Try.prog.underlying t = some (.struct fs)) (hone : oneCellFields Try.prog fs = true) (hC : Try.prog.cellsOf t = fs.size)
    (hc : W.cells? 0 a k = some cs) (hk : k = fs.size) (h : DataW.trod enc Try.prog W 0 (fun _ => true) true n t cs = some x) :
    ∃ (xs : List (DataW H × List MemPlace)) (n' : Nat), x.1 = .agg (xs.map (·.1)) ∧ ∀ (j : Nat) (f : Field), fs[j]? = some f → ∃ v y, W.cell? (a.add j) = some v ∧ xs[j]? = some y ∧ DataW.trod enc Try.prog W 0 (fun _ => true) true n' f.type [v] = some y := by
  obtain ⟨xs, n', _, hx, hl, hxl, hf⟩ := DataW.trod_struct hu h
  obtain ⟨_, hcl, hat⟩ := World.cells?_some hc
  refine ⟨xs, n', by rw [hx], fun j f hj => ?_⟩
  have hjl : j < fs.size := (Array.getElem?_eq_some_iff.1 hj).1
  obtain ⟨ho, hk1⟩ := hone_of hone j f hj
  have h1 := hf j f hj
  have hcj : j < cs.length := by rw [hl, hC]; exact hjl
  rw [ho, hk1, List.drop_eq_getElem_cons hcj, List.take_succ_cons, List.take_zero] at h1
  obtain ⟨y, hy⟩ : ∃ y, xs[j]? = some y := ⟨_, List.getElem?_eq_getElem (by omega)⟩
  refine ⟨cs[j], y, ?_, hy, h1.trans hy⟩
  rw [hat j (by omega), List.getElem?_eq_getElem hcj]
def MB (W : World) : Nat → Prop := fun q => q < W.heap.size
theorem open_data {A : Option Addr} {n c fuel : Nat} {x : DataW H × List MemPlace} (hf : DataW.trod enc Try.prog W 0 (fun _ => true) true fuel 41 [.slice A n c] = some x) : ∃ l, Bts W (MB W) A n c l := by
  rcases open_ints Try.underlying41 Try.underlying5 byteCells hf with ⟨hcs, hx⟩ | ⟨a, m, cc, zs, hcs, _, hl, hm, hz, hx, hcell, hwz⟩
  · simp at hcs
    obtain ⟨rfl, rfl, rfl⟩ := hcs
    exact ⟨[], rfl, Nat.le_refl _, by unfold maxLen; omega, fun h => absurd h (by omega)⟩
  · simp at hcs
    obtain ⟨rfl, rfl, rfl⟩ := hcs
    simp only [if_true] at hz
    refine ⟨(zs.take n).map (fun z => UInt8.ofNat z.toNat), by simp [hz]; omega, hl, hm, fun h0 => ?_⟩
    obtain ⟨b, off, spot⟩ := a
    have hspot : spot = none := by simpa [Addr.add] using World.cell?_spot (hcell 0 (by omega))
    subst hspot
    have hb : b < W.heap.size := by
      have := hcell 0 (by omega)
      exact World.block_lt_of_cell? W ⟨b, off, none⟩ (by rw [Addr.add_lit] at this; exact this)
    refine ⟨b, off, rfl, hb, fun j v hj => ?_⟩
    have hjn : j < n := by have := (List.getElem?_eq_some_iff.1 hj).1; rw [bc_len] at this; simp at this; omega
    have hjz : j < zs.length := by omega
    have h1 := hcell j hjz
    rw [Addr.add_lit] at h1
    rw [h1]
    have hw := byte_of (hwz zs[j] (List.getElem_mem hjz))
    rw [bc_get (by simp; omega)] at hj
    rw [← hj]
    simp only [List.getElem?_map, List.getElem?_take, if_pos hjn, List.getD, List.getElem?_eq_getElem hjz, Option.getD_some, Option.map_some]
    rw [← hw]
theorem len_bulk {D : Nat → DataW H} (n : Nat) : n ≤ Rows.uptoBulkAll ((List.range n).map D) := by
  rw [bulkAll]
  have h : ∀ l : List (DataW H), l.length ≤ (l.map Rows.uptoBulk).sum := by
    intro l
    induction l with
    | nil => simp
    | cons d r ih => have := bulk_pos d; simp; omega
  simpa using h ((List.range n).map D)
theorem open_wrs {A : Option Addr} {n c fuel : Nat} {x : DataW H × List MemPlace} (hf : DataW.trod enc Try.prog W 0 (fun _ => true) true fuel 32 [.slice A n c] = some x) : ∃ ws, Wrs W (MB W) A n c ws ∧ n ≤ Rows.uptoBulk x.1 := by
  rcases open_slice Try.underlying32 hf with ⟨hcs, hx⟩ | ⟨a, len, cap, m, n', D, Pl, hcs, _, hl, hm, hmm, hx, hi⟩
  · simp at hcs
    obtain ⟨rfl, rfl, rfl⟩ := hcs
    exact ⟨[], ⟨rfl, Nat.le_refl _, by unfold maxLen; omega, fun h => absurd h (by omega)⟩, by omega⟩
  · simp at hcs
    obtain ⟨rfl, rfl, rfl⟩ := hcs
    simp only [if_true] at hmm
    have hC : Try.prog.cellsOf 52 = 2 := by kernel_rfl
    have hbulk : n ≤ Rows.uptoBulk x.1 := by
      rw [hx]
      simp only [Rows.uptoBulk]
      have := len_bulk (D := D) n
      omega
    have key : ∀ i, i < n → ∃ y : Wr, W.cell? ((a.add (i * 2)).add 0) = some (.int .i64 y.1) ∧ ∃ A' n' c', W.cell? ((a.add (i * 2)).add 1) = some (.slice A' n' c') ∧ Bts W (MB W) A' n' c' y.2 := by
      intro i hin
      obtain ⟨cs', hc, ht⟩ := hi i (by omega)
      rw [hC] at hc
      obtain ⟨xs, k, _, hfl⟩ := open_fields Try.underlying52 (by kernel_rfl) (by kernel_rfl) hc (by kernel_rfl) ht
      obtain ⟨v0, y0, c0, _, t0⟩ := hfl 0 _ rfl
      obtain ⟨v1, y1, c1, _, t1⟩ := hfl 1 _ rfl
      obtain ⟨z, hz, _, _⟩ := DataW.trod_int Try.underlying3 t0
      simp at hz
      subst hz
      obtain ⟨A', n', c', rfl⟩ : ∃ A' n' c', v1 = .slice A' n' c' := by
        rcases DataW.trod_slice Try.underlying41 t1 with ⟨h1, _⟩ | ⟨q, l1, l2, _, _, _, _, h1, _⟩
        · simp at h1; exact ⟨_, _, _, h1⟩
        · simp at h1; exact ⟨_, _, _, h1⟩
      obtain ⟨l, hB⟩ := open_data t1
      exact ⟨(z, l), c0, A', n', c', c1, hB⟩
    obtain ⟨ws, hwl, hws⟩ := list_of key
    refine ⟨ws, ⟨hwl, hl, hm, fun h0 => ?_⟩, hbulk⟩
    obtain ⟨b, off, spot⟩ := a
    obtain ⟨y, h1, _⟩ := key 0 h0
    have hspot : spot = none := by simpa [Addr.add] using World.cell?_spot h1
    subst hspot
    have hb : b < W.heap.size := World.block_lt_of_cell? W ⟨b, off + 0 * 2 + 0, none⟩ (by rw [Addr.add_mid, Addr.add_mid] at h1; exact h1)
    refine ⟨b, off, rfl, hb, fun j y hj => ?_⟩
    obtain ⟨h1, A', n', c', h2, h3⟩ := hws j y hj
    rw [Addr.add_mid, Addr.add_mid] at h1 h2
    exact ⟨h1, A', n', c', h2, h3⟩
def total (l : List SStep) : Nat := (l.map fun x => x.list.length).sum
theorem open_stps {A : Option Addr} {n c fuel : Nat} {x : DataW H × List MemPlace} (hf : DataW.trod enc Try.prog W 0 (fun _ => true) true fuel 22 [.slice A n c] = some x) : ∃ l, Stps W (MB W) A n c l ∧ total l ≤ Rows.uptoBulk x.1 := by
  rcases open_slice Try.underlying22 hf with ⟨hcs, hx⟩ | ⟨a, len, cap, m, n', D, Pl, hcs, _, hl, hm, hmm, hx, hi⟩
  · simp at hcs
    obtain ⟨rfl, rfl, rfl⟩ := hcs
    exact ⟨[], ⟨rfl, Nat.le_refl _, by unfold maxLen; omega, fun h => absurd h (by omega)⟩, by simp [total]⟩
  · simp at hcs
    obtain ⟨rfl, rfl, rfl⟩ := hcs
    simp only [if_true] at hmm
    have hC : Try.prog.cellsOf 34 = 4 := by kernel_rfl
    have key : ∀ i, i < n → ∃ y : SStep, (∃ A1 n1 c1 A2 n2 c2, W.cell? ((a.add (i * 4)).add 0) = some (.int .i64 y.what) ∧ W.cell? ((a.add (i * 4)).add 1) = some (.int .i64 y.n) ∧ W.cell? ((a.add (i * 4)).add 2) = some (.slice A1 n1 c1) ∧ W.cell? ((a.add (i * 4)).add 3) = some (.slice A2 n2 c2) ∧ StepV W (MB W) y A1 n1 c1 A2 n2 c2) ∧ y.list.length ≤ Rows.uptoBulk (D i) := by
      intro i hin
      obtain ⟨cs', hc, ht⟩ := hi i (by omega)
      rw [hC] at hc
      obtain ⟨xs, k, hD, hfl⟩ := open_fields Try.underlying34 (by kernel_rfl) (by kernel_rfl) hc (by kernel_rfl) ht
      obtain ⟨v0, y0, c0, _, t0⟩ := hfl 0 _ rfl
      obtain ⟨v1, y1, c1, _, t1⟩ := hfl 1 _ rfl
      obtain ⟨v2, y2, c2, e2, t2⟩ := hfl 2 _ rfl
      obtain ⟨v3, y3, c3, _, t3⟩ := hfl 3 _ rfl
      obtain ⟨z, hz, _, _⟩ := DataW.trod_int Try.underlying3 t0
      simp at hz
      subst hz
      obtain ⟨z1, hz1, _, hw1⟩ := DataW.trod_int Try.underlying3 t1
      simp at hz1
      subst hz1
      obtain ⟨A1, n1, cc1, rfl⟩ : ∃ A' n' c', v2 = .slice A' n' c' := by
        rcases DataW.trod_slice Try.underlying32 t2 with ⟨h1, _⟩ | ⟨q, l1, l2, _, _, _, _, h1, _⟩
        · simp at h1; exact ⟨_, _, _, h1⟩
        · simp at h1; exact ⟨_, _, _, h1⟩
      obtain ⟨A2, n2, cc2, rfl⟩ : ∃ A' n' c', v3 = .slice A' n' c' := by
        rcases DataW.trod_slice Try.underlying23 t3 with ⟨h1, _⟩ | ⟨q, l1, l2, _, _, _, _, h1, _⟩
        · simp at h1; exact ⟨_, _, _, h1⟩
        · simp at h1; exact ⟨_, _, _, h1⟩
      obtain ⟨ws, hW, hb⟩ := open_wrs t2
      obtain ⟨ks, hK⟩ := open_keep t3
      refine ⟨⟨z, z1, ws, ks⟩, ⟨A1, n1, cc1, A2, n2, cc2, c0, c1, c2, c3, (int_of hw1).1, (int_of hw1).2, hW, hK⟩, ?_⟩
      show ws.length ≤ Rows.uptoBulk (D i)
      have hD' : D i = .agg (xs.map (·.1)) := hD
      rw [hD', hW.len]
      simp only [Rows.uptoBulk]
      rw [bulkAll]
      have hm2 : Rows.uptoBulk y2.1 ∈ (xs.map (·.1)).map Rows.uptoBulk := List.mem_map_of_mem (List.mem_map_of_mem (List.mem_of_getElem? e2))
      have hsum : ∀ (l : List Nat) (v : Nat), v ∈ l → v ≤ l.sum := by
        intro l v
        induction l with
        | nil => intro h; cases h
        | cons q r ih =>
          intro h
          rcases List.mem_cons.1 h with rfl | h
          · simp
          · have := ih h; simp; omega
      have := hsum _ _ hm2
      omega
    obtain ⟨l, hll, hls⟩ := list_of key
    refine ⟨l, ⟨hll, hl, hm, fun h0 => ?_⟩, ?_⟩
    · obtain ⟨b, off, spot⟩ := a
      obtain ⟨y, ⟨_, _, _, _, _, _, h1, _⟩, _⟩ := key 0 h0
      have hspot : spot = none := by simpa [Addr.add] using World.cell?_spot h1
      subst hspot
      have hb : b < W.heap.size := World.block_lt_of_cell? W ⟨b, off + 0 * 4 + 0, none⟩ (by rw [Addr.add_mid, Addr.add_mid] at h1; exact h1)
      refine ⟨b, off, rfl, hb, fun j y hj => ?_⟩
      obtain ⟨⟨A1, n1, c1, A2, n2, c2, h1, h2, h3, h4, h5⟩, _⟩ := hls j y hj
      rw [Addr.add_mid, Addr.add_mid] at h1 h2 h3 h4
      exact ⟨A1, n1, c1, A2, n2, c2, h1, h2, h3, h4, h5⟩
    · have h1 := sum_range (l := l) (f := fun x => x.list.length) (g := fun i => Rows.uptoBulk (D i)) fun i y hy => (hls i y hy).2
      rw [hx]
      simp only [Rows.uptoBulk]
      rw [bulkAll, List.map_map]
      rw [hll] at h1
      have e : (List.map (Rows.uptoBulk ∘ D) (List.range n)) = (List.range n).map fun i => Rows.uptoBulk (D i) := rfl
      rw [e]
      unfold total
      omega
end
end Go.Proofs.Yticbfjflhojolaa
