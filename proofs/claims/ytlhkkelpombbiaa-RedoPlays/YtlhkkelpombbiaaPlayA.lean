/- RedoPlays: the texts that are made at the beginning; a slice of steps in memory. -/
import Derived.Test.YtlhkkelpombbiaaAgain
import Derived.Test.YtlhkkelpombbiaaCheck
import Derived.Deep.RegionLaw
namespace Go.Proofs.Ytlhkkelpombbiaa
open Go.RowKit
set_option linter.unusedVariables false

def zrow (k : Nat) : List Value := (List.replicate k zeros).map tv
theorem appZ_run {w : World} {base k : Nat} {v : Value} (h : w.ownsRow base 9 1 v k (zrow k)) (hk : k ≤ 1024) (hb : base ≤ w.heap.size) :
    ∃ v' w', (Builtin.append_ #[39, 39] 39 #[v, .slice (some ⟨w.heap.size + 1, 0, none⟩) 1 1]).run Try.prog ((w.alloc (.cells (bc zeros).toArray 5)).alloc (.cells #[.string (sb zeros)] 9)) = .ok v' w' ∧ w'.ownsRow base 9 1 v' (k + 1) (zrow (k + 1)) ∧ ((w.alloc (.cells (bc zeros).toArray 5)).alloc (.cells #[.string (sb zeros)] 9)).grownBy w' v.ownBlock := by
  obtain ⟨i0, hi, hz0, hz1, hz2⟩ := info_parts info9
  have hz : (w.alloc (.cells (bc zeros).toArray 5)).heap.size = w.heap.size + 1 := by simp
  obtain ⟨v', w', hr, h2, h3, _⟩ := run_append_own (P := Try.prog) ((w.alloc (.cells (bc zeros).toArray 5)).alloc (.cells #[.string (sb zeros)] 9)) base 39 39 9 i0 _ 1 16 Try.underlying39 hi hz0 hz1 hz2 rfl (by decide) v k (zrow k) ((h.alloc _).alloc _) ⟨w.heap.size + 1, 0, none⟩ 1 1 [tv zeros] (by simp)
    (fun j u hu => by
      match j, hu with
      | 0, hu =>
        simp only [List.getElem?_cons_zero, Option.some.injEq] at hu
        subst hu
        have := World.cell?_alloc_mark (w.alloc (.cells (bc zeros).toArray 5)) #[.string (sb zeros)] 9 (0, 0) 0
        rw [hz] at this
        rw [Addr.add_lit]
        exact this
      | j + 1, hu => simp at hu) (fun u hu => by simp only [List.mem_singleton] at hu; subst hu; rfl) (by unfold maxLen; omega) (by omega) (by simp; omega)
  refine ⟨v', w', hr, ?_, h3⟩
  have : zrow (k + 1) = zrow k ++ [tv zeros] := by unfold zrow; rw [List.replicate_succ', List.map_append]; rfl
  rw [this]
  exact h2
def StepAt (w : World) (M : Nat → Prop) (b o : Nat) (x : SStep) : Prop := ∃ A1 n1 c1 A2 n2 c2, w.cell? ⟨b, o, none⟩ = some (.int .i64 x.what) ∧ w.cell? ⟨b, o + 1, none⟩ = some (.int .i64 x.n) ∧ w.cell? ⟨b, o + 2, none⟩ = some (.slice A1 n1 c1) ∧ w.cell? ⟨b, o + 3, none⟩ = some (.slice A2 n2 c2) ∧ StepV w M x A1 n1 c1 A2 n2 c2
structure Stps (w : World) (M : Nat → Prop) (A : Option Addr) (n c : Nat) (l : List SStep) : Prop where
  len : l.length = n
  cap : n ≤ c
  lim : c ≤ maxLen
  at_ : 0 < n → ∃ b off, A = some ⟨b, off, none⟩ ∧ M b ∧ ∀ (j : Nat) (x : SStep), l[j]? = some x → StepAt w M b (off + j * 4) x
theorem StepAt.keep {w w' : World} {M : Nat → Prop} {b o : Nat} {x : SStep} (h : StepAt w M b o x) (hb : M b) (hk : ∀ b, M b → w'.heap[b]? = w.heap[b]?) : StepAt w' M b o x := by
  obtain ⟨A1, n1, c1, A2, n2, c2, h0, h1, h2, h3, h4⟩ := h
  have e : ∀ j, w'.cell? ⟨b, j, none⟩ = w.cell? ⟨b, j, none⟩ := fun j => World.cell?_of_block (a := ⟨b, j, none⟩) (hk b hb)
  exact ⟨A1, n1, c1, A2, n2, c2, (e _).trans h0, (e _).trans h1, (e _).trans h2, (e _).trans h3, h4.keep_ hk⟩
theorem Stps.get {w : World} {M : Nat → Prop} {A : Option Addr} {n c : Nat} {l : List SStep} (h : Stps w M A n c l) {j : Nat} {x : SStep} (hj : l[j]? = some x) : ∃ b off, A = some ⟨b, off, none⟩ ∧ M b ∧ StepAt w M b (off + j * 4) x := by
  obtain ⟨b, off, e, hb, hc⟩ := h.at_ (by rw [← h.len]; have := (List.getElem?_eq_some_iff.1 hj).1; omega)
  exact ⟨b, off, e, hb, hc j x hj⟩
/-- New texts of the law's. -/
theorem TB.fresh {W w w' : World} {gb d N gn cn g c : Nat} {O : List Nat} {s : DS} {X Y Z : Secs2} {off : Bool} {vm : Value} (h : Gm W w gb d O N s X Y off gn cn vm) (hg : w.heap.size ≤ g) (hs : StrB w' g c Z) : TB W w' gb O g c Z :=
  ⟨hs, fun e => by have := h.sit.drv.lt _ e; omega, by have := h.sit.bel.size; omega, by have := h.gm.lt; omega⟩
theorem Gm.newNow {W w : World} {gb d N gn cn g c : Nat} {O : List Nat} {s : DS} {X Y Z : Secs2} {off : Bool} {vm : Value} (h : Gm W w gb d O N s X Y off gn cn vm) (ht : TB W w gb O g c Z) (hl : Z.length = N) : Gm W (w.setCell ⟨gb, 1, none⟩ (.slice (some ⟨g, 0, none⟩) N c)) gb d O N s Z Y off g c vm :=
  ⟨h.sit.set _ h.gbo h.gbw, h.gbo, h.gbw, hl, heap_setCell_at h.gm _, ht.gset _, fun e => by obtain ⟨h1, g, c, h2, h3⟩ := h.may e; exact ⟨h1, g, c, h2, h3.gset _⟩⟩
/-- The law's game, of which nothing is said that may be. -/
structure Gh (W w : World) (gb d : Nat) (O : List Nat) (N : Nat) (s : DS) (X : Secs2) (off : Bool) (gn cn : Nat) (vm : Value) : Prop where
  sit : Sit W w d O N s
  gbo : gb ∉ O
  gbw : W.heap.size ≤ gb
  xl : X.length = N
  gm : GameAt w gb d (.slice (some ⟨gn, 0, none⟩) N cn) vm off
  now : TB W w gb O gn cn X
theorem Gm.up {W w : World} {gb d N gn cn : Nat} {O : List Nat} {s : DS} {X Y : Secs2} {off : Bool} {vm : Value} (h : Gm W w gb d O N s X Y off gn cn vm) : Gh W (w.setCell ⟨gb, 3, none⟩ (.bool true)) gb d O N s X true gn cn vm :=
  ⟨h.sit.set _ h.gbo h.gbw, h.gbo, h.gbw, h.xl, heap_setCell_at h.gm _, h.now.gset _⟩
theorem Gh.below {W w w' : World} {gb d N gn cn : Nat} {O : List Nat} {s : DS} {X : Secs2} {off : Bool} {vm : Value} (h : Gh W w gb d O N s X off gn cn vm) (hb : Below w.heap.size w w') : Gh W w' gb d O N s X off gn cn vm :=
  ⟨h.sit.below hb, h.gbo, h.gbw, h.xl, h.gm.below hb, h.now.below hb⟩
theorem Gh.may {W w : World} {gb d N gn cn g c : Nat} {O : List Nat} {s : DS} {X Z : Secs2} {vm : Value} (h : Gh W w gb d O N s X true gn cn vm) (ht : TB W w gb O g c Z) (hl : Z.length = N) : Gm W (w.setCell ⟨gb, 2, none⟩ (.slice (some ⟨g, 0, none⟩) N c)) gb d O N s X Z true gn cn (.slice (some ⟨g, 0, none⟩) N c) :=
  ⟨h.sit.set _ h.gbo h.gbw, h.gbo, h.gbw, h.xl, heap_setCell_at h.gm _, h.now.gset _, fun _ => ⟨hl, g, c, rfl, ht.gset _⟩⟩
theorem TB.freshH {W w w' : World} {gb d N gn cn g c : Nat} {O : List Nat} {s : DS} {X Z : Secs2} {off : Bool} {vm : Value} (h : Gh W w gb d O N s X off gn cn vm) (hg : w.heap.size ≤ g) (hs : StrB w' g c Z) : TB W w' gb O g c Z :=
  ⟨hs, fun e => by have := h.sit.drv.lt _ e; omega, by have := h.sit.bel.size; omega, by have := h.gm.lt; omega⟩
/-- Writes that may be laid over N texts. -/
def Over (N : Nat) (ws : List Wr) : Prop := ∀ x ∈ ws, (∃ m : Nat, x.1 = m ∧ m < N) ∧ x.2.length = 128
theorem fit_over {N : Nat} {ws : List Wr} (h : fit N ws = true) : Over N ws := by
  obtain ⟨h1, h2, h3, _⟩ := fit_facts h
  intro x hx
  obtain ⟨g1, g2, _⟩ := num_facts h1 h2 (List.mem_map.2 ⟨x, hx, rfl⟩)
  exact ⟨⟨x.1.toNat, by omega, by omega⟩, h3 x hx⟩
/-- What a Commit of the law's may answer, and what there is then. -/
theorem commit_cases {N : Nat} {s : DS} {X Y : Secs2} {off : Bool} {ws : List Wr} (hN : 64 ≤ N) (hl : X.length = N) (h1 : off = true → s.down = true ∧ Back N s X Y) (h2 : off = false → OnS N s X) {e1 : Int} {s1 : DS} {q : Int} (hc : s.commit N ws = (e1, s1)) (hq : chkE N ws = q) :
    (q = 1 ∧ e1 = 1 ∧ s1 = s) ∨ (q = 0 ∧ off = true ∧ ws = [] ∧ e1 = 0 ∧ s1 = s) ∨ (q = 0 ∧ off = true ∧ ws ≠ [] ∧ e1 = 11 ∧ s1 = s) ∨
    (q = 0 ∧ off = false ∧ e1 = 0 ∧ OnS N s1 (lay X (toW ws)) ∧ Over N ws) ∨ (q = 0 ∧ off = false ∧ ws ≠ [] ∧ e1 = 11 ∧ s1.down = true ∧ Back N s1 X (lay X (toW ws)) ∧ Over N ws) := by
  by_cases hw : ws = []
  · subst hw
    have e : s.commit N [] = (0, s) := by simp [DS.commit]
    rw [e] at hc
    cases hc
    have hq0 : q = 0 := by rw [← hq]; rfl
    cases off with
    | true => exact .inr (.inl ⟨hq0, rfl, rfl, rfl, rfl⟩)
    | false => exact .inr (.inr (.inr (.inl ⟨hq0, rfl, rfl, h2 rfl, fun x hx => by cases hx⟩)))
  · cases hf : fit N ws with
    | false =>
      have e : s.commit N ws = (1, s) := by simp [DS.commit, hw, hf]
      rw [e] at hc
      cases hc
      exact .inl ⟨by rw [← hq]; simp [chkE, hw, hf], rfl, rfl⟩
    | true =>
      have hq0 : q = 0 := by rw [← hq]; simp [chkE, hf]
      cases off with
      | true =>
        have e : s.commit N ws = (11, s) := by simp [DS.commit, hw, hf, (h1 rfl).1]
        rw [e] at hc
        cases hc
        exact .inr (.inr (.inl ⟨hq0, rfl, hw, rfl, rfl⟩))
      | false =>
        rcases commit_den hN (h2 rfl) hl hf hw with ⟨s', g1, g2, _⟩ | ⟨s', g1, _, g3, g4⟩
        · rw [g1] at hc
          cases hc
          exact .inr (.inr (.inr (.inl ⟨hq0, rfl, rfl, g2, fit_over hf⟩)))
        · rw [g1] at hc
          cases hc
          exact .inr (.inr (.inr (.inr ⟨hq0, rfl, hw, rfl, g3, g4, fit_over hf⟩)))
theorem down_recover {N : Nat} {s : DS} (h : s.down = true) : s.recover N = (11, s) := by simp [DS.recover, h]
theorem zero_step (W : World) : StepV W (fun q => q < W.heap.size) ⟨0, 0, [], []⟩ none 0 0 none 0 0 :=
  ⟨by decide, by decide, ⟨rfl, Nat.le_refl _, by unfold maxLen; omega, fun h => absurd h (by omega)⟩, ints_none _ _, by omega⟩
end Go.Proofs.Ytlhkkelpombbiaa
