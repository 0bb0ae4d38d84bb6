/- Plain mathematics: what is left of a drive whose power goes in the middle of Commit or Recover. No program. -/
import Derived.Test.YtlhkkelpombbiaaLog
namespace Go.Proofs.Ytlhkkelpombbiaa
set_option linter.unusedVariables false

abbrev Secs2 := List (List UInt8)
def toW (ws : List Wr) : List (Nat × List UInt8) := ws.map fun w => (w.1.toNat, w.2)
theorem toW_app (a b : List Wr) : toW (a ++ b) = toW a ++ toW b := by simp [toW]
theorem lay_app (L : Secs2) (a b : List (Nat × List UInt8)) : lay L (a ++ b) = lay (lay L a) b := by simp [lay]
theorem lay_cons (L : Secs2) (p : Nat × List UInt8) (r : List (Nat × List UInt8)) : lay L (p :: r) = lay (L.set p.1 p.2) r := rfl
theorem lay_not {ps : List (Nat × List UInt8)} {i : Nat} : ∀ (L : Secs2), (∀ p ∈ ps, p.1 ≠ i) → (lay L ps)[i]? = L[i]? := by
  induction ps with
  | nil => intro L _; rfl
  | cons p r ih =>
    intro L h
    rw [lay_cons, ih _ (fun q hq => h q (by simp [hq])), List.getElem?_set_ne (h p (by simp))]
theorem lay_at {ps : List (Nat × List UInt8)} {i : Nat} : ∀ (L L' : Secs2), L.length = L'.length → (∃ p ∈ ps, p.1 = i) → (lay L ps)[i]? = (lay L' ps)[i]? := by
  induction ps with
  | nil => intro L L' _ ⟨p, hp, _⟩; simp at hp
  | cons p r ih =>
    intro L L' hl h
    rw [lay_cons, lay_cons]
    by_cases hr : ∃ q ∈ r, q.1 = i
    · exact ih _ _ (by simp [hl]) hr
    · have hn : ∀ q ∈ r, q.1 ≠ i := fun q hq e => hr ⟨q, hq, e⟩
      rw [lay_not _ hn, lay_not _ hn]
      obtain ⟨q, hq, e⟩ := h
      have : q = p := by
        simp only [List.mem_cons] at hq
        rcases hq with h | h
        · exact h
        · exact absurd e (hn q h)
      subst this
      subst e
      rw [List.getElem?_set, List.getElem?_set]
      simp [hl]
theorem lay_congr {ps : List (Nat × List UInt8)} {i : Nat} {L L' : Secs2} (hl : L.length = L'.length) (h : L[i]? = L'[i]?) : (lay L ps)[i]? = (lay L' ps)[i]? := by
  by_cases hp : ∃ p ∈ ps, p.1 = i
  · exact lay_at L L' hl hp
  · have hn : ∀ q ∈ ps, q.1 ≠ i := fun q hq e => hp ⟨q, hq, e⟩
    rw [lay_not _ hn, lay_not _ hn, h]
/-- Some of the writes ahead of all of them change nothing. -/
theorem lay_redo {ps qs : List (Nat × List UInt8)} (h : ∀ q ∈ qs, q ∈ ps) (L : Secs2) (i : Nat) : (lay (lay L qs) ps)[i]? = (lay L ps)[i]? := by
  by_cases hp : ∃ p ∈ ps, p.1 = i
  · exact lay_at _ _ (lay_len _ _) hp
  · have hn : ∀ q ∈ ps, q.1 ≠ i := fun q hq e => hp ⟨q, hq, e⟩
    rw [lay_not _ hn, lay_not _ hn, lay_not _ (fun q hq => hn q (h q hq))]
theorem keeps_sub (keep : List Int) : ∀ (ps : List (Nat × List UInt8)) (i : Nat), ∀ q ∈ keeps keep i ps, q ∈ ps := by
  intro ps
  induction ps with
  | nil => intro i q hq; simp [keeps] at hq
  | cons p r ih =>
    intro i q hq
    rw [keeps] at hq
    split at hq
    · simp only [List.mem_cons] at hq ⊢
      rcases hq with h | h
      · exact .inl h
      · exact .inr (ih _ _ h)
    · simp only [List.mem_cons]
      exact .inr (ih _ _ hq)
/-- At rest: there is power, and all that is there lasts. -/
structure Rest (s : DS) (L : Secs2) : Prop where
  down : s.down = false
  since : s.since = []
  now : s.now = L
  las : s.lasting = L
  fuse : s.fused = true → 0 ≤ s.left
/-- Cut off: there is no power; of the writes ps some may not have been flushed, the others are not there. -/
structure Cut (s : DS) (L : Secs2) (ps : List (Nat × List UInt8)) : Prop where
  down : s.down = true
  las : s.lasting = L
  sub : ∀ q ∈ s.since, q ∈ ps
theorem Cut.again {s : DS} {L : Secs2} {ps : List (Nat × List UInt8)} (h : Cut s L ps) (keep : List Int) : ∃ qs, (∀ q ∈ qs, q ∈ ps) ∧ Rest (s.restart keep) (lay L qs) ∧ (s.restart keep).fused = false :=
  ⟨keeps keep 0 s.since, fun q hq => h.sub q (keeps_sub _ _ _ q hq), ⟨rfl, rfl, by simp [DS.restart, h.las], by simp [DS.restart, h.las], by simp [DS.restart]⟩, rfl⟩
theorem Rest.again {s : DS} {L : Secs2} (h : Rest s L) (keep : List Int) : Rest (s.restart keep) L ∧ (s.restart keep).fused = false := by
  have : lay s.lasting (keeps keep 0 s.since) = L := by rw [h.since, h.las]; rfl
  exact ⟨⟨rfl, rfl, by simp [DS.restart, this], by simp [DS.restart, this], by simp [DS.restart]⟩, rfl⟩
theorem Rest.fuse_ {s : DS} {L : Secs2} (h : Rest s L) (n : Int) : Rest (s.fuse n) L :=
  ⟨h.down, h.since, h.now, h.las, fun hf => by simpa [DS.fuse] using hf⟩
def PutOk (s : DS) (ws : List Wr) (s' : DS) : Prop := s'.down = false ∧ s'.now = lay s.now (toW ws) ∧ s'.lasting = s.lasting ∧ s'.since = s.since ++ toW ws ∧ s'.fused = s.fused ∧ (s'.fused = true → 0 ≤ s'.left)
theorem spend_facts (s : DS) : s.spend.now = s.now ∧ s.spend.lasting = s.lasting ∧ s.spend.since = s.since ∧ s.spend.fused = s.fused := by
  unfold DS.spend
  split
  · rename_i h; exact ⟨rfl, rfl, rfl, rfl⟩
  · exact ⟨rfl, rfl, rfl, rfl⟩
theorem spend_left {s : DS} (hp : s.pow = true) (hl : s.fused = true → 0 ≤ s.left) : s.spend.fused = true → 0 ≤ s.spend.left := by
  intro h
  have hf : s.fused = true := by rw [← (spend_facts s).2.2.2]; exact h
  have h1 : s.left ≠ 0 := by simpa [DS.pow, hf] using hp
  have := hl hf
  simp only [DS.spend, hf, if_true]
  omega
theorem pow_not {s : DS} (h : s.pow = false) : s.fused = true ∧ s.spend.down = true := by
  have : s.fused = true ∧ s.left = 0 := by simpa [DS.pow] using h
  exact ⟨this.1, by simp [DS.spend, this.1, this.2]⟩
theorem putGo_cases : ∀ (ws : List Wr) (s : DS), s.down = false → (s.fused = true → 0 ≤ s.left) →
    (∃ s', s.putGo ws = (0, s') ∧ PutOk s ws s') ∨ (∃ s' k, s.putGo ws = (11, s') ∧ s.fused = true ∧ s'.down = true ∧ s'.lasting = s.lasting ∧ s'.since = s.since ++ toW (ws.take k)) := by
  intro ws
  induction ws with
  | nil => intro s hd hl; exact .inl ⟨s, rfl, hd, rfl, rfl, by simp [toW], rfl, hl⟩
  | cons w r ih =>
    intro s hd hl
    obtain ⟨e1, e2, e3, e4⟩ := spend_facts s
    cases hp : s.pow with
    | false =>
      obtain ⟨h1, h2⟩ := pow_not hp
      exact .inr ⟨s.spend, 0, by simp [DS.putGo, hp], h1, h2, e2, by simp [e3, toW]⟩
    | true =>
      have hgo : s.putGo (w :: r) = (s.spend.put1 w.1.toNat w.2).putGo r := by simp [DS.putGo, hp]
      rw [hgo]
      rcases ih (s.spend.put1 w.1.toNat w.2) (spend_down hp hd) (spend_left hp hl) with ⟨s', h1, h2, h3, h4, h5, h6, h7⟩ | ⟨s', k, h1, h2, h3, h4, h5⟩
      · refine .inl ⟨s', h1, h2, ?_, ?_, ?_, ?_, h7⟩
        · rw [h3]; show lay (s.spend.now.set _ _) _ = lay s.now ((_, _) :: _); rw [e1]; rfl
        · rw [h4]; exact e2
        · rw [h5]; show (s.spend.since ++ [_]) ++ _ = _; rw [e3]; simp [toW]
        · rw [h6]; exact e4
      · refine .inr ⟨s', k + 1, h1, by rw [← e4]; exact h2, h3, by rw [h4]; exact e2, ?_⟩
        rw [h5]; show (s.spend.since ++ [_]) ++ _ = _; rw [e3]; simp [toW]
theorem mem_toW_take {ws : List Wr} {k : Nat} : ∀ q ∈ toW (ws.take k), q ∈ toW ws := by
  intro q hq
  simp only [toW, List.mem_map] at hq ⊢
  obtain ⟨w, hw, e⟩ := hq
  exact ⟨w, List.mem_of_mem_take hw, e⟩
theorem lasts_cases {s : DS} {L : Secs2} {N : Nat} {ws : List Wr} (h : Rest s L) (hf : fitE N ws = 0) :
    (∃ s', s.lasts N ws = (0, s') ∧ Rest s' (lay L (toW ws)) ∧ s'.fused = s.fused) ∨ (∃ s', s.lasts N ws = (11, s') ∧ Cut s' L (toW ws) ∧ s.fused = true) := by
  have hput : s.put N ws = s.putGo ws := by simp [DS.put, h.down, hf]
  unfold DS.lasts
  rw [hput]
  rcases putGo_cases ws s h.down h.fuse with ⟨s1, h1, g1, g2, g3, g4, g5, g6⟩ | ⟨s1, k, h1, g1, g2, g3, g4⟩
  · rw [h1]
    simp only [if_true]
    obtain ⟨e1, e2, e3, e4⟩ := spend_facts s1
    cases hp : s1.pow with
    | true =>
      refine .inl ⟨{ s1.spend with lasting := lay s1.lasting s1.since, since := [] }, by simp [DS.flush, g1, hp], ⟨spend_down hp g1, rfl, ?_, ?_, spend_left hp g6⟩, ?_⟩
      · show s1.spend.now = _; rw [e1, g2, h.now]
      · show lay s1.lasting s1.since = _; rw [g3, g4, h.since, h.las]; rfl
      · show s1.spend.fused = _; rw [e4, g5]
    | false =>
      obtain ⟨p1, p2⟩ := pow_not hp
      refine .inr ⟨s1.spend, by simp [DS.flush, g1, hp], ⟨p2, by rw [e2, g3, h.las], ?_⟩, by rw [← g5]; exact p1⟩
      rw [e3, g4, h.since]
      simp
  · rw [h1]
    refine .inr ⟨s1, by simp, ⟨g2, by rw [g3, h.las], ?_⟩, g1⟩
    rw [g4, h.since, List.nil_append]
    exact mem_toW_take
end Go.Proofs.Ytlhkkelpombbiaa
