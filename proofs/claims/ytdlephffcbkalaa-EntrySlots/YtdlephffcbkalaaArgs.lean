/- The arguments, opened: a []byte that came in is a slice that holds bytes, and takes no more than the form's reach. -/
import Derived.Test.YtdlephffcbkalaaMem
import Derived.OpenShut
import Derived.ShutString
import Derived.ChangeOld
import Derived.SizedLaws
import Derived.Deep.Strs
import Derived.Deep.Slices
import Derived.Deep.Fields
import Derived.ChangeSame
namespace Go.Proofs.Ytdlephffcbkalaa
open Go.ChangeShapes Go.WideShapes Go.ChangeAt Go.RowKit Go.Deep
open Go.ChangeMaps (open_string shut_string)
set_option linter.unusedVariables false

theorem own : ownKnob Try.prog.godebug = none := by kernel_rfl
theorem laidOut : laidOutB Try.prog = true := by kernel_rfl
theorem byteCells : Try.prog.cellsOf 5 = 1 := by kernel_rfl
theorem byteBytes : Try.prog.bytesOf 5 = 1 := by kernel_rfl

theorem byte_of {z : Int} (h : (Lit.int .u8 z).wf = true) : z = ((UInt8.ofNat z.toNat).toNat : Int) := by
  have h1 : IntKind.u8.min = 0 := rfl
  have h2 : IntKind.u8.max = 255 := rfl
  simp only [Lit.wf, Bool.and_eq_true, decide_eq_true_eq] at h
  rw [UInt8.toNat_ofNat']
  omega

theorem open_bytes {H : Type} {enc : TypeId × Value → H} {W : World} {a : Option Addr} {n c : Nat} {d : DataW H} {p : List MemPlace} (h : DataW.Trod enc Try.prog W 0 (fun _ => true) true 24 (.slice a n c) d p) :
    ∃ l, Bts W W.heap.size a n c l ∧ ((d = .nil ∧ c = 0) ∨ ∃ es sp, d = .slice es sp ∧ es.length + sp.length = c) := by
  obtain ⟨fuel, hf⟩ := h
  rcases open_ints Try.underlying24 Try.underlying5 byteCells hf with ⟨hcs, hx⟩ | ⟨x, m, cc, zs, hcs, _, hl, hm, hz, hx, hcell, hwz⟩
  · simp [Value.cells] at hcs
    obtain ⟨rfl, rfl, rfl⟩ := hcs
    simp only [Prod.mk.injEq] at hx
    obtain ⟨rfl, rfl⟩ := hx
    exact ⟨[], Bts.nil_ _ _, .inl ⟨rfl, rfl⟩⟩
  · simp [Value.cells] at hcs
    obtain ⟨rfl, rfl, rfl⟩ := hcs
    simp only [Prod.mk.injEq] at hx
    obtain ⟨rfl, rfl⟩ := hx
    simp only [if_true] at hz
    refine ⟨(zs.take n).map (fun z => UInt8.ofNat z.toNat), ⟨by simp [hz]; omega, hl, hm, (fun e => by cases e), fun h0 => ?_⟩, .inr ⟨_, _, rfl, ?_⟩⟩
    · obtain ⟨b, off, spot⟩ := x
      have hspot : spot = none := by simpa [Addr.add] using World.cell?_spot (hcell 0 (by omega))
      subst hspot
      have hb : b < W.heap.size := by
        have := hcell 0 (by omega)
        exact World.block_lt_of_cell? W ⟨b, off, none⟩ (by rw [Addr.add_lit] at this; exact this)
      refine ⟨b, off, rfl, hb, fun j hj => ?_⟩
      have hjz : j < zs.length := by omega
      have h1 := hcell j hjz
      rw [Addr.add_lit] at h1
      rw [h1]
      have hw := byte_of (hwz zs[j] (List.getElem_mem hjz))
      simp only [List.getElem?_map, List.getElem?_take, if_pos hj, List.getD, List.getElem?_eq_getElem hjz, Option.getD_some, Option.map_some]
      rw [← hw]
    · simp [lits]
      omega
theorem reach_of {H : Type} {ts : List TypeId} {ds : List (DataW H)} (hsz : (DataW.weightsEach Try.prog ts ds).all (· ≤ reachBytes) = true) {j c : Nat} {d : DataW H} (ht : ts[j]? = some 24) (hd : ds[j]? = some d)
    (h : (d = .nil ∧ c = 0) ∨ ∃ es sp, d = .slice es sp ∧ es.length + sp.length = c) : c ≤ 140737488351232 := by
  rcases h with ⟨_, rfl⟩ | ⟨es, sp, rfl, rfl⟩
  · omega
  · have := sized_slice hsz ht hd Try.underlying24
    rw [byteBytes] at this
    simp only [reachBytes] at this
    omega
/-- A list out of what holds of each place. -/
theorem list_of {α : Type} {R : Nat → α → Prop} : ∀ {n : Nat}, (∀ i, i < n → ∃ x, R i x) → ∃ l : List α, l.length = n ∧ ∀ i x, l[i]? = some x → R i x
  | 0, _ => ⟨[], rfl, fun i x h => by simp at h⟩
  | n + 1, h => by
    obtain ⟨l, hl, hR⟩ := list_of (n := n) fun i hi => h i (by omega)
    obtain ⟨y, hy⟩ := h n (by omega)
    refine ⟨l ++ [y], by simp [hl], fun i x hx => ?_⟩
    rw [List.getElem?_append] at hx
    split at hx
    · exact hR i x hx
    · rename_i hi
      have hi' : i - l.length = 0 := by
        rcases Nat.eq_zero_or_pos (i - l.length) with e | e
        · exact e
        · rw [List.getElem?_eq_none (by simp; omega)] at hx; cases hx
      rw [hi'] at hx
      cases hx
      have : i = n := by omega
      rw [this]
      exact hy
theorem rowCells : Try.prog.cellsOf 23 = 2 := by kernel_rfl
theorem strCells : Try.prog.cellsOf 9 = 1 := by kernel_rfl
theorem intCells : Try.prog.cellsOf 3 = 1 := by kernel_rfl
/-- An entry that came in. -/
theorem open_row {H : Type} {enc : TypeId × Value → H} {W : World} {r : Reach} {b0 : Nat} {v : Value} {d : DataW H} {p : List MemPlace} (hval : Value.okWide Try.prog W r b0 23 v) (h : DataW.Trod enc Try.prog W 0 (fun _ => true) true 23 v d p) :
    ∃ (a : List UInt8) (x : Int), v = .agg #[.string (bs a), .int .i64 x] := by
  obtain ⟨cs, rfl, hcs⟩ := okWide_struct Try.underlying23 hval
  rw [rowCells] at hcs
  obtain ⟨fuel, hf⟩ := h
  obtain ⟨y0, y1, n, _, _, h0, h1⟩ := trod_struct2 Try.underlying23 hf
  obtain ⟨l⟩ := cs
  match l, hcs with
  | [c0, c1], _ =>
    simp only [strCells, intCells] at h0 h1
    obtain ⟨s, e0, _⟩ := DataW.trod_string Try.underlying9 h0
    obtain ⟨z, e1, _⟩ := DataW.trod_int Try.underlying3 h1
    simp [Value.cells] at e0 e1
    refine ⟨s.data.toList, z, ?_⟩
    rw [e0, e1, data_bs]
section
variable {H : Type} {enc : TypeId × Value → H} {W : World}
/-- The cells of a struct of one-cell fields, and how each reads. -/
theorem open_fields {t : TypeId} {fs : Array Field} {n k : Nat} {a : Addr} {cs : List Value} {x : DataW H × List MemPlace} (hu : Try.prog.underlying t = some (.struct fs)) (hone : oneCellFields Try.prog fs = true) (hC : Try.prog.cellsOf t = fs.size)
    (hc : W.cells? 0 a k = some cs) (hk : k = fs.size) (h : DataW.trod enc Try.prog W 0 (fun _ => true) true n t cs = some x) :
    ∃ (xs : List (DataW H × List MemPlace)) (n' : Nat), x.1 = .agg (xs.map (·.1)) ∧ ∀ (j : Nat) (f : Field), fs[j]? = some f → ∃ v y, W.cell? (a.add j) = some v ∧ xs[j]? = some y ∧ DataW.trod enc Try.prog W 0 (fun _ => true) true n' f.type [v] = some y := by
  obtain ⟨xs, n', _, hx, hl, hxl, hf⟩ := DataW.trod_struct hu h
  obtain ⟨_, hcl, hat⟩ := World.cells?_some hc
  refine ⟨xs, n', by rw [hx], fun j f hj => ?_⟩
  have hjl : j < fs.size := (Array.getElem?_eq_some_iff.1 hj).1
  obtain ⟨ho, hk1⟩ := hone_of hone j f hj
  have h1 := hf j f hj
  have hcj : j < cs.length := by rw [hl, hC]; exact hjl
  rw [ho, hk1, List.drop_eq_getElem_cons hcj, List.take_succ_cons, List.take_zero] at h1
  obtain ⟨y, hy⟩ : ∃ y, xs[j]? = some y := ⟨_, List.getElem?_eq_getElem (by omega)⟩
  refine ⟨cs[j], y, ?_, hy, h1.trans hy⟩
  rw [hat j (by omega), List.getElem?_eq_getElem hcj]
/-- Entries that came in. -/
theorem open_rows {A : Option Addr} {n c : Nat} {d : DataW H} {p : List MemPlace} (h : DataW.Trod enc Try.prog W 0 (fun _ => true) true 35 (.slice A n c) d p) : ∃ l, Rws W W.heap.size A n c l := by
  obtain ⟨fuel, hf⟩ := h
  rcases open_slice Try.underlying35 hf with ⟨hcs, hx⟩ | ⟨a, len, cap, m, n', D, Pl, hcs, _, hl, hm, hmm, hx, hi⟩
  · simp [Value.cells] at hcs
    obtain ⟨rfl, rfl, rfl⟩ := hcs
    exact ⟨[], Rws.nil_ _ _⟩
  · simp [Value.cells] at hcs
    obtain ⟨rfl, rfl, rfl⟩ := hcs
    simp only [if_true] at hmm
    have key : ∀ i, i < n → ∃ y : Rw, W.cell? ((a.add (i * 2)).add 0) = some (.string (bs y.1)) ∧ W.cell? ((a.add (i * 2)).add 1) = some (.int .i64 y.2) := by
      intro i hin
      obtain ⟨cs', hc, ht⟩ := hi i (by omega)
      rw [rowCells] at hc
      obtain ⟨xs, k, _, hfl⟩ := open_fields Try.underlying23 (by kernel_rfl) (by kernel_rfl) hc (by kernel_rfl) ht
      obtain ⟨v0, y0, c0, _, t0⟩ := hfl 0 _ rfl
      obtain ⟨v1, y1, c1, _, t1⟩ := hfl 1 _ rfl
      obtain ⟨s, hs, _, _⟩ := DataW.trod_string Try.underlying9 t0
      obtain ⟨z, hz, _, _⟩ := DataW.trod_int Try.underlying3 t1
      simp at hs hz
      subst hs hz
      exact ⟨(s.data.toList, z), by rw [data_bs]; exact c0, c1⟩
    obtain ⟨l, hll, hls⟩ := list_of key
    refine ⟨l, ⟨hll, hl, hm, fun h0 => ?_⟩⟩
    obtain ⟨b, off, spot⟩ := a
    obtain ⟨y, h1, _⟩ := key 0 h0
    have hspot : spot = none := by simpa [Addr.add] using World.cell?_spot h1
    subst hspot
    have hb : b < W.heap.size := World.block_lt_of_cell? W ⟨b, off + 0 * 2 + 0, none⟩ (by rw [Addr.add_mid, Addr.add_mid] at h1; exact h1)
    refine ⟨b, off, rfl, hb, fun j y hj => ?_⟩
    obtain ⟨h1, h2⟩ := hls j y hj
    rw [Addr.add_mid, Addr.add_mid] at h1 h2
    exact ⟨h1, h2⟩
end
end Go.Proofs.Ytdlephffcbkalaa
