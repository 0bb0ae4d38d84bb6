/- The arguments, opened: a []Step that came in. -/
import Derived.Test.YtijbgdihnjnllaaGreatVTwo
import Derived.Test.YtijbgdihnjnllaaGreatArgs
import Derived.Deep.Slices
import Derived.Deep.Fields
namespace Go.Proofs.YtijbgdihnjnllaaGreat.V
open Go.ChangeShapes Go.WideShapes Go.ChangeAt Go.RowKit Go.Deep
set_option linter.unusedVariables false
/-- A step: which call, of which file, where, how much, which bytes. -/
structure SStep where
  what : Int
  file : Int
  pos : Int
  size : Int
  data : List UInt8
def I64 (z : Int) : Prop := -9223372036854775808 ≤ z ∧ z ≤ 9223372036854775807
/-- The slice holds these steps; they, and their bytes, lie below block B. -/
structure Stps (w : World) (B : Nat) (A : Option Addr) (n c : Nat) (l : List SStep) : Prop where
  len : l.length = n
  cap : n ≤ c
  lim : c ≤ maxLen
  at_ : 0 < n → ∃ b off, A = some ⟨b, off, none⟩ ∧ b < B ∧ ∀ (j : Nat) (x : SStep), l[j]? = some x → ∃ A' n' c', w.cell? ⟨b, off + j * 5, none⟩ = some (.int .i64 x.what) ∧ w.cell? ⟨b, off + j * 5 + 1, none⟩ = some (.int .i64 x.file) ∧
    w.cell? ⟨b, off + j * 5 + 2, none⟩ = some (.int .i64 x.pos) ∧ w.cell? ⟨b, off + j * 5 + 3, none⟩ = some (.int .i64 x.size) ∧ w.cell? ⟨b, off + j * 5 + 4, none⟩ = some (.slice A' n' c') ∧ F.Bts w B A' n' c' x.data ∧ I64 x.what ∧ I64 x.file ∧ I64 x.pos ∧ I64 x.size
theorem Stps.below {w w' : World} {B : Nat} {A : Option Addr} {n c : Nat} {l : List SStep} (h : Stps w B A n c l) (hb : Below B w w') : Stps w' B A n c l :=
  ⟨h.len, h.cap, h.lim, fun h0 => by
    obtain ⟨b, off, e, hbB, hc⟩ := h.at_ h0
    refine ⟨b, off, e, hbB, fun j x hj => ?_⟩
    obtain ⟨A', n', c', h1, h2, h3, h4, h5, h6, h7⟩ := hc j x hj
    exact ⟨A', n', c', (hb.cell (p := ⟨b, _, none⟩) hbB).trans h1, (hb.cell (p := ⟨b, _, none⟩) hbB).trans h2, (hb.cell (p := ⟨b, _, none⟩) hbB).trans h3, (hb.cell (p := ⟨b, _, none⟩) hbB).trans h4, (hb.cell (p := ⟨b, _, none⟩) hbB).trans h5, h6.below hb, h7⟩⟩
theorem list_of {α : Type} {R : Nat → α → Prop} : ∀ {n : Nat}, (∀ i, i < n → ∃ x, R i x) → ∃ l : List α, l.length = n ∧ ∀ i x, l[i]? = some x → R i x
  | 0, _ => ⟨[], rfl, fun i x h => by simp at h⟩
  | n + 1, h => by
    obtain ⟨l, hl, hR⟩ := list_of (n := n) fun i hi => h i (by omega)
    obtain ⟨y, hy⟩ := h n (by omega)
    refine ⟨l ++ [y], by simp [hl], fun i x hx => ?_⟩
    rw [List.getElem?_append] at hx
    split at hx
    · exact hR i x hx
    · rename_i hi
      have hi' : i - l.length = 0 := by
        rcases Nat.eq_zero_or_pos (i - l.length) with e | e
        · exact e
        · rw [List.getElem?_eq_none (by simp; omega)] at hx; cases hx
      rw [hi'] at hx
      cases hx
      have : i = n := by omega
      rw [this]
      exact hy
section
variable {H : Type} {enc : TypeId × Value → H} {W : World}
theorem open_fields {t : TypeId} {fs : Array Field} {n k : Nat} {a : Addr} {cs : List Value} {x : DataW H × List MemPlace} (hu : Tryz.prog.underlying t = some (.struct fs)) (hone : oneCellFields Tryz.prog fs = true) (hC : Tryz.prog.cellsOf t = fs.size)
    (hc : W.cells? 0 a k = some cs) (hk : k = fs.size) (h : DataW.trod enc Tryz.prog W 0 (fun _ => true) true n t cs = some x) :
    ∃ (xs : List (DataW H × List MemPlace)) (n' : Nat), x.1 = .agg (xs.map (·.1)) ∧ ∀ (j : Nat) (f : Field), fs[j]? = some f → ∃ v y, W.cell? (a.add j) = some v ∧ xs[j]? = some y ∧ DataW.trod enc Tryz.prog W 0 (fun _ => true) true n' f.type [v] = some y := by
  obtain ⟨xs, n', _, hx, hl, hxl, hf⟩ := DataW.trod_struct hu h
  obtain ⟨_, hcl, hat⟩ := World.cells?_some hc
  refine ⟨xs, n', by rw [hx], fun j f hj => ?_⟩
  have hjl : j < fs.size := (Array.getElem?_eq_some_iff.1 hj).1
  obtain ⟨ho, hk1⟩ := hone_of hone j f hj
  have h1 := hf j f hj
  have hcj : j < cs.length := by rw [hl, hC]; exact hjl
  rw [ho, hk1, List.drop_eq_getElem_cons hcj, List.take_succ_cons, List.take_zero] at h1
  obtain ⟨y, hy⟩ : ∃ y, xs[j]? = some y := ⟨_, List.getElem?_eq_getElem (by omega)⟩
  refine ⟨cs[j], y, ?_, hy, h1.trans hy⟩
  rw [hat j (by omega), List.getElem?_eq_getElem hcj]
theorem open_stps {A : Option Addr} {n c fuel : Nat} {x : DataW H × List MemPlace} (hf : DataW.trod enc Tryz.prog W 0 (fun _ => true) true fuel 22 [.slice A n c] = some x) : ∃ l, Stps W W.heap.size A n c l := by
  rcases open_slice Tryz.underlying22 hf with ⟨hcs, hx⟩ | ⟨a, len, cap, m, n', D, Pl, hcs, _, hl, hm, hmm, hx, hi⟩
  · simp at hcs
    obtain ⟨rfl, rfl, rfl⟩ := hcs
    exact ⟨[], ⟨rfl, Nat.le_refl _, by unfold maxLen; omega, fun h => absurd h (by omega)⟩⟩
  · simp at hcs
    obtain ⟨rfl, rfl, rfl⟩ := hcs
    simp only [if_true] at hmm
    have hC : Tryz.prog.cellsOf 29 = 5 := by kernel_rfl
    have key : ∀ i, i < n → ∃ y : SStep, ∃ A2 n2 c2, W.cell? ((a.add (i * 5)).add 0) = some (.int .i64 y.what) ∧ W.cell? ((a.add (i * 5)).add 1) = some (.int .i64 y.file) ∧ W.cell? ((a.add (i * 5)).add 2) = some (.int .i64 y.pos) ∧ W.cell? ((a.add (i * 5)).add 3) = some (.int .i64 y.size) ∧
        W.cell? ((a.add (i * 5)).add 4) = some (.slice A2 n2 c2) ∧ F.Bts W W.heap.size A2 n2 c2 y.data ∧ I64 y.what ∧ I64 y.file ∧ I64 y.pos ∧ I64 y.size := by
      intro i hin
      obtain ⟨cs', hc, ht⟩ := hi i (by omega)
      rw [hC] at hc
      obtain ⟨xs, k, hD, hfl⟩ := open_fields Tryz.underlying29 (by kernel_rfl) (by kernel_rfl) hc (by kernel_rfl) ht
      obtain ⟨v0, y0, c0, _, t0⟩ := hfl 0 _ rfl
      obtain ⟨v1, y1, c1, _, t1⟩ := hfl 1 _ rfl
      obtain ⟨v2, y2, c2, _, t2⟩ := hfl 2 _ rfl
      obtain ⟨v3, y3, c3, _, t3⟩ := hfl 3 _ rfl
      obtain ⟨v4, y4, c4, _, t4⟩ := hfl 4 _ rfl
      obtain ⟨z0, hz0, _, hw0⟩ := DataW.trod_int Tryz.underlying3 t0
      simp at hz0
      subst hz0
      obtain ⟨z1, hz1, _, hw1⟩ := DataW.trod_int Tryz.underlying3 t1
      simp at hz1
      subst hz1
      obtain ⟨z2, hz2, _, hw2⟩ := DataW.trod_int Tryz.underlying3 t2
      simp at hz2
      subst hz2
      obtain ⟨z3, hz3, _, hw3⟩ := DataW.trod_int Tryz.underlying3 t3
      simp at hz3
      subst hz3
      obtain ⟨A2, n2, cc2, rfl⟩ : ∃ A' n' c', v4 = .slice A' n' c' := by
        rcases DataW.trod_slice Tryz.underlying27 t4 with ⟨h1, _⟩ | ⟨q, l1, l2, _, _, _, _, h1, _⟩
        · simp at h1; exact ⟨_, _, _, h1⟩
        · simp at h1; exact ⟨_, _, _, h1⟩
      obtain ⟨l, hB⟩ := open_bytes (enc := enc) (W := W) ⟨_, t4⟩
      exact ⟨⟨z0, z1, z2, z3, l⟩, A2, n2, cc2, c0, c1, c2, c3, c4, hB, int_of hw0, int_of hw1, int_of hw2, int_of hw3⟩
    obtain ⟨l, hll, hls⟩ := list_of key
    refine ⟨l, ⟨hll, hl, hm, fun h0 => ?_⟩⟩
    obtain ⟨b, off, spot⟩ := a
    obtain ⟨y, _, _, _, h1, _⟩ := key 0 h0
    have hspot : spot = none := by simpa [Addr.add] using World.cell?_spot h1
    subst hspot
    have hb : b < W.heap.size := World.block_lt_of_cell? W ⟨b, off + 0 * 5 + 0, none⟩ (by rw [Addr.add_mid, Addr.add_mid] at h1; exact h1)
    refine ⟨b, off, rfl, hb, fun j y hj => ?_⟩
    obtain ⟨A2, n2, c2, h1, h2, h3, h4, h5, h6, h7⟩ := hls j y hj
    rw [Addr.add_mid, Addr.add_mid] at h1 h2 h3 h4 h5
    exact ⟨A2, n2, c2, h1, h2, h3, h4, h5, h6, h7⟩
end
end Go.Proofs.YtijbgdihnjnllaaGreat.V
