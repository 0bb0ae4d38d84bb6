/- The arguments, opened: a []Step that came in. -/
import Derived.Test.YtlhkkelpombbiaaPlayA
import Derived.Test.YtlhkkelpombbiaaArgs
import Derived.Deep.Slices
import Derived.Deep.Fields
namespace Go.Proofs.Ytlhkkelpombbiaa
open Go.ChangeShapes Go.WideShapes Go.ChangeAt Go.RowKit Go.Deep
set_option linter.unusedVariables false

/-- A list out of what holds of each place. -/
theorem list_of {α : Type} {R : Nat → α → Prop} : ∀ {n : Nat}, (∀ i, i < n → ∃ x, R i x) → ∃ l : List α, l.length = n ∧ ∀ i x, l[i]? = some x → R i x
  | 0, _ => ⟨[], rfl, fun i x h => by simp at h⟩
  | n + 1, h => by
    obtain ⟨l, hl, hR⟩ := list_of (n := n) fun i hi => h i (by omega)
    obtain ⟨y, hy⟩ := h n (by omega)
    refine ⟨l ++ [y], by simp [hl], fun i x hx => ?_⟩
    rw [List.getElem?_append] at hx
    split at hx
    · exact hR i x hx
    · rename_i hi
      have hi' : i - l.length = 0 := by
        rcases Nat.eq_zero_or_pos (i - l.length) with e | e
        · exact e
        · rw [List.getElem?_eq_none (by simp; omega)] at hx; cases hx
      rw [hi'] at hx
      cases hx
      have : i = n := by omega
      rw [this]
      exact hy
theorem weightsAll_mem {H : Type} {P : Program} {e : TypeId} : ∀ {l : List (DataW H)} {d : DataW H}, d ∈ l → ∀ n ∈ d.weights P e, n ∈ DataW.weightsAll P e l
  | d0 :: r, d, hd, n, hn => by
    simp only [DataW.weightsAll, List.mem_append]
    rcases List.mem_cons.1 hd with rfl | h
    · exact .inl hn
    · exact .inr (weightsAll_mem h n hn)
section
variable {H : Type} {enc : TypeId × Value → H} {W : World}
/-- The cells of a struct of one-cell fields, and how each reads. -/
theorem open_fields {t : TypeId} {fs : Array Field} {n k : Nat} {a : Addr} {cs : List Value} {x : DataW H × List MemPlace} (hu : Try.prog.underlying t = some (.struct fs)) (hone : oneCellFields Try.prog fs = true) (hC : Try.prog.cellsOf t = fs.size)
    (hc : W.cells? 0 a k = some cs) (hk : k = fs.size) (h : DataW.trod enc Try.prog W 0 (fun _ => true) true n t cs = some x) :
    ∃ (xs : List (DataW H × List MemPlace)) (n' : Nat), x.1 = .agg (xs.map (·.1)) ∧ ∀ (j : Nat) (f : Field), fs[j]? = some f → ∃ v y, W.cell? (a.add j) = some v ∧ xs[j]? = some y ∧ DataW.trod enc Try.prog W 0 (fun _ => true) true n' f.type [v] = some y := by
  obtain ⟨xs, n', _, hx, hl, hxl, hf⟩ := DataW.trod_struct hu h
  obtain ⟨_, hcl, hat⟩ := World.cells?_some hc
  refine ⟨xs, n', by rw [hx], fun j f hj => ?_⟩
  have hjl : j < fs.size := (Array.getElem?_eq_some_iff.1 hj).1
  obtain ⟨ho, hk1⟩ := hone_of hone j f hj
  have h1 := hf j f hj
  have hcj : j < cs.length := by rw [hl, hC]; exact hjl
  rw [ho, hk1, List.drop_eq_getElem_cons hcj, List.take_succ_cons, List.take_zero] at h1
  obtain ⟨y, hy⟩ : ∃ y, xs[j]? = some y := ⟨_, List.getElem?_eq_getElem (by omega)⟩
  refine ⟨cs[j], y, ?_, hy, h1.trans hy⟩
  rw [hat j (by omega), List.getElem?_eq_getElem hcj]
def MB (W : World) : Nat → Prop := fun q => q < W.heap.size
theorem open_data {A : Option Addr} {n c fuel : Nat} {x : DataW H × List MemPlace} (hf : DataW.trod enc Try.prog W 0 (fun _ => true) true fuel 23 [.slice A n c] = some x) : ∃ l, Bts W (MB W) A n c l := by
  rcases open_ints Try.underlying23 Try.underlying5 byteCells hf with ⟨hcs, hx⟩ | ⟨a, m, cc, zs, hcs, _, hl, hm, hz, hx, hcell, hwz⟩
  · simp at hcs
    obtain ⟨rfl, rfl, rfl⟩ := hcs
    exact ⟨[], rfl, Nat.le_refl _, by unfold maxLen; omega, fun h => absurd h (by omega)⟩
  · simp at hcs
    obtain ⟨rfl, rfl, rfl⟩ := hcs
    simp only [if_true] at hz
    refine ⟨(zs.take n).map (fun z => UInt8.ofNat z.toNat), by simp [hz]; omega, hl, hm, fun h0 => ?_⟩
    obtain ⟨b, off, spot⟩ := a
    have hspot : spot = none := by simpa [Addr.add] using World.cell?_spot (hcell 0 (by omega))
    subst hspot
    have hb : b < W.heap.size := by
      have := hcell 0 (by omega)
      exact World.block_lt_of_cell? W ⟨b, off, none⟩ (by rw [Addr.add_lit] at this; exact this)
    refine ⟨b, off, rfl, hb, fun j v hj => ?_⟩
    have hjn : j < n := by have := (List.getElem?_eq_some_iff.1 hj).1; rw [bc_len] at this; simp at this; omega
    have hjz : j < zs.length := by omega
    have h1 := hcell j hjz
    rw [Addr.add_lit] at h1
    rw [h1]
    have hw := byte_of (hwz zs[j] (List.getElem_mem hjz))
    rw [bc_get (by simp; omega)] at hj
    rw [← hj]
    simp only [List.getElem?_map, List.getElem?_take, if_pos hjn, List.getD, List.getElem?_eq_getElem hjz, Option.getD_some, Option.map_some]
    rw [← hw]
theorem open_wrs {A : Option Addr} {n c fuel : Nat} {x : DataW H × List MemPlace} (hf : DataW.trod enc Try.prog W 0 (fun _ => true) true fuel 43 [.slice A n c] = some x) : ∃ ws, Wrs W (MB W) A n c ws ∧ ((x.1 = .nil ∧ n = 0) ∨ ∃ es sp, x.1 = .slice es sp ∧ n ≤ es.length + sp.length) := by
  rcases open_slice Try.underlying43 hf with ⟨hcs, hx⟩ | ⟨a, len, cap, m, n', D, Pl, hcs, _, hl, hm, hmm, hx, hi⟩
  · simp at hcs
    obtain ⟨rfl, rfl, rfl⟩ := hcs
    exact ⟨[], ⟨rfl, Nat.le_refl _, by unfold maxLen; omega, fun h => absurd h (by omega)⟩, .inl ⟨by rw [hx], rfl⟩⟩
  · simp at hcs
    obtain ⟨rfl, rfl, rfl⟩ := hcs
    simp only [if_true] at hmm
    have hC : Try.prog.cellsOf 56 = 2 := by kernel_rfl
    have hbulk : (x.1 = .nil ∧ n = 0) ∨ ∃ es sp, x.1 = .slice es sp ∧ n ≤ es.length + sp.length := .inr ⟨_, _, by rw [hx], by simp⟩
    have key : ∀ i, i < n → ∃ y : Wr, W.cell? ((a.add (i * 2)).add 0) = some (.int .i64 y.1) ∧ ∃ A' n' c', W.cell? ((a.add (i * 2)).add 1) = some (.slice A' n' c') ∧ Bts W (MB W) A' n' c' y.2 := by
      intro i hin
      obtain ⟨cs', hc, ht⟩ := hi i (by omega)
      rw [hC] at hc
      obtain ⟨xs, k, _, hfl⟩ := open_fields Try.underlying56 (by kernel_rfl) (by kernel_rfl) hc (by kernel_rfl) ht
      obtain ⟨v0, y0, c0, _, t0⟩ := hfl 0 _ rfl
      obtain ⟨v1, y1, c1, _, t1⟩ := hfl 1 _ rfl
      obtain ⟨z, hz, _, _⟩ := DataW.trod_int Try.underlying3 t0
      simp at hz
      subst hz
      obtain ⟨A', n', c', rfl⟩ : ∃ A' n' c', v1 = .slice A' n' c' := by
        rcases DataW.trod_slice Try.underlying23 t1 with ⟨h1, _⟩ | ⟨q, l1, l2, _, _, _, _, h1, _⟩
        · simp at h1; exact ⟨_, _, _, h1⟩
        · simp at h1; exact ⟨_, _, _, h1⟩
      obtain ⟨l, hB⟩ := open_data t1
      exact ⟨(z, l), c0, A', n', c', c1, hB⟩
    obtain ⟨ws, hwl, hws⟩ := list_of key
    refine ⟨ws, ⟨hwl, hl, hm, fun h0 => ?_⟩, hbulk⟩
    obtain ⟨b, off, spot⟩ := a
    obtain ⟨y, h1, _⟩ := key 0 h0
    have hspot : spot = none := by simpa [Addr.add] using World.cell?_spot h1
    subst hspot
    have hb : b < W.heap.size := World.block_lt_of_cell? W ⟨b, off + 0 * 2 + 0, none⟩ (by rw [Addr.add_mid, Addr.add_mid] at h1; exact h1)
    refine ⟨b, off, rfl, hb, fun j y hj => ?_⟩
    obtain ⟨h1, A', n', c', h2, h3⟩ := hws j y hj
    rw [Addr.add_mid, Addr.add_mid] at h1 h2
    exact ⟨h1, A', n', c', h2, h3⟩
theorem open_stps {A : Option Addr} {n c fuel : Nat} {x : DataW H × List MemPlace} (hf : DataW.trod enc Try.prog W 0 (fun _ => true) true fuel 35 [.slice A n c] = some x) (hsz : ∀ q ∈ x.1.weights Try.prog 35, q ≤ reachBytes) : ∃ l, Stps W (MB W) A n c l := by
  rcases open_slice Try.underlying35 hf with ⟨hcs, hx⟩ | ⟨a, len, cap, m, n', D, Pl, hcs, _, hl, hm, hmm, hx, hi⟩
  · simp at hcs
    obtain ⟨rfl, rfl, rfl⟩ := hcs
    exact ⟨[], ⟨rfl, Nat.le_refl _, by unfold maxLen; omega, fun h => absurd h (by omega)⟩⟩
  · simp at hcs
    obtain ⟨rfl, rfl, rfl⟩ := hcs
    simp only [if_true] at hmm
    have hC : Try.prog.cellsOf 45 = 4 := by kernel_rfl
    have key : ∀ i, i < n → ∃ y : SStep, (∃ A1 n1 c1 A2 n2 c2, W.cell? ((a.add (i * 4)).add 0) = some (.int .i64 y.what) ∧ W.cell? ((a.add (i * 4)).add 1) = some (.int .i64 y.n) ∧ W.cell? ((a.add (i * 4)).add 2) = some (.slice A1 n1 c1) ∧ W.cell? ((a.add (i * 4)).add 3) = some (.slice A2 n2 c2) ∧ StepV W (MB W) y A1 n1 c1 A2 n2 c2) := by
      intro i hin
      obtain ⟨cs', hc, ht⟩ := hi i (by omega)
      rw [hC] at hc
      obtain ⟨xs, k, hD, hfl⟩ := open_fields Try.underlying45 (by kernel_rfl) (by kernel_rfl) hc (by kernel_rfl) ht
      obtain ⟨v0, y0, c0, _, t0⟩ := hfl 0 _ rfl
      obtain ⟨v1, y1, c1, _, t1⟩ := hfl 1 _ rfl
      obtain ⟨v2, y2, c2, e2, t2⟩ := hfl 2 _ rfl
      obtain ⟨v3, y3, c3, _, t3⟩ := hfl 3 _ rfl
      obtain ⟨z, hz, _, _⟩ := DataW.trod_int Try.underlying3 t0
      simp at hz
      subst hz
      obtain ⟨z1, hz1, _, hw1⟩ := DataW.trod_int Try.underlying3 t1
      simp at hz1
      subst hz1
      obtain ⟨A1, n1, cc1, rfl⟩ : ∃ A' n' c', v2 = .slice A' n' c' := by
        rcases DataW.trod_slice Try.underlying43 t2 with ⟨h1, _⟩ | ⟨q, l1, l2, _, _, _, _, h1, _⟩
        · simp at h1; exact ⟨_, _, _, h1⟩
        · simp at h1; exact ⟨_, _, _, h1⟩
      obtain ⟨A2, n2, cc2, rfl⟩ : ∃ A' n' c', v3 = .slice A' n' c' := by
        rcases DataW.trod_slice Try.underlying22 t3 with ⟨h1, _⟩ | ⟨q, l1, l2, _, _, _, _, h1, _⟩
        · simp at h1; exact ⟨_, _, _, h1⟩
        · simp at h1; exact ⟨_, _, _, h1⟩
      obtain ⟨ws, hW, hb⟩ := open_wrs t2
      obtain ⟨ks, hK⟩ := open_keep t3
      have hD' : D i = .agg (xs.map (·.1)) := hD
      have hsml : n1 * 8 ≤ 70368744177664 := by
        rcases hb with ⟨_, rfl⟩ | ⟨es, sp, hy, hle⟩
        · omega
        · have hmem : (es.length + sp.length) * Try.prog.bytesOf 56 ∈ x.1.weights Try.prog 35 := by
            have h1 : (es.length + sp.length) * Try.prog.bytesOf 56 ∈ y2.1.weights Try.prog 43 := by
              rw [hy]
              simp [DataW.weights, Try.underlying43]
            have h2 : (es.length + sp.length) * Try.prog.bytesOf 56 ∈ (D i).weights Try.prog 45 := by
              rw [hD']
              simp only [DataW.weights, Try.underlying45]
              exact DataW.weights_mem_each (j := 2) (t := 43) (d := y2.1) rfl (by rw [List.getElem?_map, e2]; rfl) _ h1
            rw [hx]
            simp only [DataW.weights, Try.underlying35]
            exact List.mem_cons_of_mem _ (List.mem_append.2 (.inl (weightsAll_mem (d := D i) (List.mem_map.2 ⟨i, List.mem_range.2 hin, rfl⟩) _ h2)))
          have h3 := hsz _ hmem
          have h4 : Try.prog.bytesOf 56 = 32 := by kernel_rfl
          rw [h4] at h3
          have h5 := reachBytes_lt
          omega
      exact ⟨⟨z, z1, ws, ks⟩, A1, n1, cc1, A2, n2, cc2, c0, c1, c2, c3, (int_of hw1).1, (int_of hw1).2, hW, hK, hsml⟩
    obtain ⟨l, hll, hls⟩ := list_of key
    refine ⟨l, ⟨hll, hl, hm, fun h0 => ?_⟩⟩
    obtain ⟨b, off, spot⟩ := a
    obtain ⟨y, _, _, _, _, _, _, h1, _⟩ := key 0 h0
    have hspot : spot = none := by simpa [Addr.add] using World.cell?_spot h1
    subst hspot
    have hb : b < W.heap.size := World.block_lt_of_cell? W ⟨b, off + 0 * 4 + 0, none⟩ (by rw [Addr.add_mid, Addr.add_mid] at h1; exact h1)
    refine ⟨b, off, rfl, hb, fun j y hj => ?_⟩
    obtain ⟨A1, n1, c1, A2, n2, c2, h1, h2, h3, h4, h5⟩ := hls j y hj
    rw [Addr.add_mid, Addr.add_mid] at h1 h2 h3 h4
    exact ⟨A1, n1, c1, A2, n2, c2, h1, h2, h3, h4, h5⟩
end
theorem word_of {z : Int} (h : (Lit.int .u16 z).wf = true) : ∃ n : Nat, n < 65536 ∧ z = (n : Int) := by
  have h1 : IntKind.u16.min = 0 := rfl
  have h2 : IntKind.u16.max = 65535 := rfl
  simp only [Lit.wf, Bool.and_eq_true, decide_eq_true_eq] at h
  exact ⟨z.toNat, by omega, by omega⟩
end Go.Proofs.Ytlhkkelpombbiaa
