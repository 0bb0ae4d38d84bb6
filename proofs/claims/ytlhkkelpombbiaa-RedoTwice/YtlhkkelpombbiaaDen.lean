/- Plain mathematics: what a drive's sectors stand for, and that Commit and Recover keep it, cut off or not. No program. -/
import Derived.Test.YtlhkkelpombbiaaCrash
namespace Go.Proofs.Ytlhkkelpombbiaa
set_option linter.unusedVariables false

/-- N sectors of 128 bytes each. -/
structure Wf (N : Nat) (L : Secs2) : Prop where
  len : L.length = N
  all : ∀ x ∈ L, x.length = 128
def inLog (i : Nat) : Prop := 1 ≤ i ∧ i < 26
instance (i : Nat) : Decidable (inLog i) := by unfold inLog; infer_instance
def bodyL (L : Secs2) (ns : List Int) : List Wr := ns.mapIdx fun i n => (n, L[2 + i]?.getD [])
/-- The sectors L, with the head's numbers ns, stand for X. -/
structure DenN (N : Nat) (L : Secs2) (ns : List Int) (X : Secs2) : Prop where
  good : good ns = true
  win : withinL N ns = true
  head : L[1]? = some (hd ns)
  eq : ∀ i, i < N → ¬ inLog i → (lay L (toW (bodyL L ns)))[i]? = X[i]?
def Den (N : Nat) (L X : Secs2) : Prop := ∃ ns, DenN N L ns X
/-- At rest, with nothing left to be done. -/
def OnS (N : Nat) (s : DS) (X : Secs2) : Prop := ∃ L, Rest s L ∧ Wf N L ∧ DenN N L [] X
/-- Whatever lasts, it stands for X or for Y. -/
def Back (N : Nat) (s : DS) (X Y : Secs2) : Prop := ∀ keep, ∃ L, Rest (s.restart keep) L ∧ (s.restart keep).fused = false ∧ Wf N L ∧ (Den N L X ∨ Den N L Y)
theorem Wf.lay {N : Nat} {L : Secs2} (h : Wf N L) : ∀ {ps : List (Nat × List UInt8)}, (∀ p ∈ ps, p.2.length = 128) → Wf N (lay L ps) := by
  intro ps
  induction ps generalizing L with
  | nil => intro _; exact h
  | cons p r ih =>
    intro hp
    rw [lay_cons]
    refine ih ⟨by rw [List.length_set]; exact h.len, fun x hx => ?_⟩ (fun q hq => hp q (by simp [hq]))
    rcases List.mem_or_eq_of_mem_set hx with h1 | h1
    · exact h.all x h1
    · rw [h1]; exact hp p (by simp)
theorem fit0 {N : Nat} {ws : List Wr} (h : ∀ w ∈ ws, 0 ≤ w.1 ∧ w.1 < N ∧ w.2.length = 128) : fitE N ws = 0 := by
  unfold fitE
  rw [if_pos, if_pos]
  · rw [List.all_eq_true]; intro w hw; simp [(h w hw).2.2]
  · rw [List.all_eq_true]; intro w hw; simp [inR, (h w hw).1, (h w hw).2.1]
theorem toW_len {ws : List Wr} (h : ∀ w ∈ ws, w.2.length = 128) : ∀ p ∈ toW ws, p.2.length = 128 := by
  intro p hp
  simp only [toW, List.mem_map] at hp
  obtain ⟨w, hw, rfl⟩ := hp
  exact h w hw
theorem mem_bodyL {L : Secs2} {ns : List Int} {w : Wr} (h : w ∈ bodyL L ns) : ∃ i, ns[i]? = some w.1 ∧ w.2 = L[2 + i]?.getD [] := by
  obtain ⟨i, hi⟩ := List.getElem?_of_mem h
  unfold bodyL at hi
  rw [List.getElem?_mapIdx] at hi
  cases hn : ns[i]? with
  | none => simp [hn] at hi
  | some n =>
    simp only [hn, Option.map_some, Option.some.injEq] at hi
    subst hi
    exact ⟨i, hn, rfl⟩
section
variable {N : Nat} {L X : Secs2} {ns : List Int}
theorem num_facts (hg : good ns = true) (hw : withinL N ns = true) {n : Int} (h : n ∈ ns) : 0 ≤ n ∧ n < N ∧ ¬ inLog n.toNat := by
  have h1 := okn_iff.1 ((good_iff.1 hg).2.1 n h)
  have h2 := List.all_eq_true.1 hw n h
  simp only [Bool.and_eq_true, decide_eq_true_eq] at h2
  refine ⟨h1.1, h2.2, fun hl => ?_⟩
  have := hl.1
  have := hl.2
  omega
theorem body_facts (hN : 64 ≤ N) (hw : Wf N L) (hg : good ns = true) (hi : withinL N ns = true) {w : Wr} (h : w ∈ bodyL L ns) : 0 ≤ w.1 ∧ w.1 < N ∧ w.2.length = 128 ∧ ¬ inLog w.1.toNat := by
  obtain ⟨i, h1, h2⟩ := mem_bodyL h
  obtain ⟨g1, g2, g3⟩ := num_facts hg hi (List.mem_of_getElem? h1)
  have hi24 : i < 24 := by
    have := (List.getElem?_eq_some_iff.1 h1).1
    have := (good_iff.1 hg).1
    omega
  refine ⟨g1, g2, ?_, g3⟩
  rw [h2, List.getElem?_eq_getElem (by rw [hw.len]; omega), Option.getD_some]
  exact hw.all _ (List.getElem_mem _)
theorem body_apart (hg : good ns = true) (hi : withinL N ns = true) : ∀ p ∈ toW (bodyL L ns), ¬ inLog p.1 := by
  intro p hp
  simp only [toW, List.mem_map] at hp
  obtain ⟨w, hw, rfl⟩ := hp
  obtain ⟨i, h1, h2⟩ := mem_bodyL hw
  exact (num_facts hg hi (List.mem_of_getElem? h1)).2.2
theorem lay_log {qs : List (Nat × List UInt8)} (h : ∀ q ∈ qs, ¬ inLog q.1) {i : Nat} (hi : inLog i) : (lay L qs)[i]? = L[i]? :=
  lay_not _ fun q hq e => h q hq (e ▸ hi)
theorem bodyL_congr {L' : Secs2} (hg : good ns = true) (h : ∀ i, inLog i → L'[i]? = L[i]?) : bodyL L' ns = bodyL L ns := by
  unfold bodyL
  apply List.ext_getElem?
  intro i
  rw [List.getElem?_mapIdx, List.getElem?_mapIdx]
  cases hn : ns[i]? with
  | none => rfl
  | some n =>
    have : i < 24 := by
      have := (List.getElem?_eq_some_iff.1 hn).1
      have := (good_iff.1 hg).1
      omega
    simp only [Option.map_some]
    rw [h (2 + i) ⟨by omega, by omega⟩]
/-- Some of the places written already: it stands for the same. -/
theorem DenN.part (h : DenN N L ns X) {qs : List (Nat × List UInt8)} (hq : ∀ q ∈ qs, q ∈ toW (bodyL L ns)) : DenN N (lay L qs) ns X := by
  have hap : ∀ q ∈ qs, ¬ inLog q.1 := fun q hq' => body_apart h.good h.win q (hq q hq')
  have hb : bodyL (lay L qs) ns = bodyL L ns := bodyL_congr h.good fun i hi => lay_log hap hi
  refine ⟨h.good, h.win, by rw [lay_log hap ⟨by omega, by omega⟩]; exact h.head, fun i h1 h2 => ?_⟩
  rw [hb, lay_redo hq]
  exact h.eq i h1 h2
theorem DenN.empty (h0 : L[1]? = some (hd [])) (h : ∀ i, i < N → ¬ inLog i → L[i]? = X[i]?) : DenN N L [] X := ⟨good_nil, rfl, h0, h⟩
theorem DenN.plain (h : DenN N L [] X) {i : Nat} (h1 : i < N) (h2 : ¬ inLog i) : L[i]? = X[i]? := h.eq i h1 h2
end
theorem hd_fit {N : Nat} (hN : 64 ≤ N) {ns : List Int} (hg : good ns = true) : fitE N [(1, hd ns)] = 0 := fit0 fun w hw => by
  simp only [List.mem_singleton] at hw
  subst hw
  exact ⟨by simp, by show (1 : Int) < N; omega, hd_len (good_iff.1 hg).1⟩
theorem sub_one {p : Nat × List UInt8} {qs : List (Nat × List UInt8)} (h : ∀ q ∈ qs, q ∈ [p]) (L : Secs2) : lay L qs = L ∨ lay L qs = L.set p.1 p.2 := by
  have : ∀ (qs : List (Nat × List UInt8)) (L : Secs2), (∀ q ∈ qs, q = p) → qs ≠ [] → lay L qs = L.set p.1 p.2 := by
    intro qs
    induction qs with
    | nil => intro L _ h; exact absurd rfl h
    | cons a r ih =>
      intro L ha _
      have e : a = p := ha a (by simp)
      subst e
      rw [lay_cons]
      by_cases hr : r = []
      · subst hr; rfl
      · rw [ih _ (fun q hq => ha q (by simp [hq])) hr, List.set_set]
  by_cases hq : qs = []
  · subst hq; exact .inl rfl
  · exact .inr (this qs L (fun q hq => by simpa using h q hq) hq)
section
variable {N : Nat} {s : DS} {L X : Secs2} {ns : List Int}
theorem set_head {ns' : List Int} (hN : 64 ≤ N) (hw : Wf N L) (hg : good ns' = true) : Wf N (L.set 1 (hd ns')) := hw.lay (ps := [(1, hd ns')]) fun p hp => by
  simp only [List.mem_singleton] at hp
  subst hp
  exact hd_len (good_iff.1 hg).1
theorem Cut.back {s : DS} {L Y : Secs2} {ps : List (Nat × List UInt8)} (h : Cut s L ps) (hw : Wf N L) (hp : ∀ p ∈ ps, p.2.length = 128) (hd : ∀ qs, (∀ q ∈ qs, q ∈ ps) → Den N (lay L qs) X ∨ Den N (lay L qs) Y) : Back N s X Y := by
  intro keep
  obtain ⟨qs, h1, h2, h3⟩ := h.again keep
  exact ⟨lay L qs, h2, h3, hw.lay fun q hq => hp q (h1 q hq), hd qs h1⟩
/-- The head with no numbers is written: at the end of both. -/
theorem head_den (hN : 64 ≤ N) (hR : Rest s L) (hw : Wf N L) (hD : Den N L X) (hX : ∀ i, i < N → ¬ inLog i → L[i]? = X[i]?) :
    (∃ s', s.head N [] = (0, s') ∧ OnS N s' X ∧ s'.fused = s.fused) ∨ (∃ s', s.head N [] = (11, s') ∧ s.fused = true ∧ s'.down = true ∧ Back N s' X X) := by
  have hemp : DenN N (L.set 1 (hd [])) [] X := DenN.empty (by rw [List.getElem?_set_self (by rw [hw.len]; omega)]) fun i h1 h2 => by
    rw [List.getElem?_set_ne (fun e => h2 ⟨by omega, by omega⟩)]; exact hX i h1 h2
  rcases lasts_cases hR (hd_fit hN good_nil) with ⟨s', h1, h2, h3⟩ | ⟨s', h1, h2, h3⟩
  · exact .inl ⟨s', h1, ⟨_, h2, set_head hN hw good_nil, hemp⟩, h3⟩
  · refine .inr ⟨s', h1, h3, h2.down, h2.back hw (fun p hp => ?_) fun qs hq => ?_⟩
    · simp only [toW, List.map_cons, List.map_nil, List.mem_singleton] at hp
      subst hp
      exact hd_len (good_iff.1 good_nil).1
    · rcases sub_one hq L with e | e
      · rw [e]; exact .inl hD
      · rw [e]; exact .inl ⟨_, hemp⟩
theorem apply_den (hN : 64 ≤ N) (hR : Rest s L) (hw : Wf N L) (hD : DenN N L ns X) :
    (∃ s', s.apply N (bodyL L ns) = (0, s') ∧ OnS N s' X ∧ s'.fused = s.fused) ∨ (∃ s', s.apply N (bodyL L ns) = (11, s') ∧ s.fused = true ∧ s'.down = true ∧ Back N s' X X) := by
  have hbf : ∀ w ∈ bodyL L ns, 0 ≤ w.1 ∧ w.1 < N ∧ w.2.length = 128 := fun w h => by
    obtain ⟨a, b, c, _⟩ := body_facts hN hw hD.good hD.win h
    exact ⟨a, b, c⟩
  have hlen := toW_len fun w h => (hbf w h).2.2
  unfold DS.apply
  rcases lasts_cases hR (fit0 hbf) with ⟨s1, h1, h2, h3⟩ | ⟨s1, h1, h2, h3⟩
  · rw [h1]
    simp only [if_true]
    rcases head_den hN h2 (hw.lay hlen) ⟨ns, hD.part fun q hq => hq⟩ (fun i g1 g2 => hD.eq i g1 g2) with ⟨s', g1, g2, g3⟩ | ⟨s', g1, g2, g3, g4⟩
    · exact .inl ⟨s', g1, g2, g3.trans h3⟩
    · exact .inr ⟨s', g1, by rw [← h3]; exact g2, g3, g4⟩
  · rw [h1]
    refine .inr ⟨s1, by simp, h3, h2.down, h2.back hw hlen fun qs hq => .inl ⟨ns, hD.part hq⟩⟩
theorem recover_den (hN : 64 ≤ N) (hR : Rest s L) (hw : Wf N L) (hD : Den N L X) :
    (∃ s', s.recover N = (0, s') ∧ OnS N s' X ∧ s'.fused = s.fused) ∨ (∃ s', s.recover N = (11, s') ∧ s.fused = true ∧ s'.down = true ∧ Back N s' X X) := by
  obtain ⟨ns, hD⟩ := hD
  have hset : s.settle = (0, s) := by simp [DS.settle, hR.down, hR.now, hR.las]
  have hrec : s.recover N = if ns = [] then (0, s) else s.apply N (bodyL L ns) := by
    unfold DS.recover
    rw [hR.now, hD.head, Option.getD_some, isHd_hd hD.good]
    simp only [hR.down, hD.win, if_true, DS.finish, hset]
    have : s.bodyOf ns = bodyL L ns := by simp only [DS.bodyOf, bodyL, hR.now]
    rw [this]
    rfl
  rw [hrec]
  by_cases hn : ns = []
  · subst hn
    rw [if_pos rfl]
    exact .inl ⟨s, rfl, ⟨L, hR, hw, hD⟩, rfl⟩
  · rw [if_neg hn]
    exact apply_den hN hR hw hD
theorem inBody_facts (hN : 64 ≤ N) {ws : List Wr} (hl : ws.length ≤ 24) (hw : ∀ w ∈ ws, w.2.length = 128) : ∀ w ∈ inBodyL ws, (0 ≤ w.1 ∧ w.1 < N ∧ w.2.length = 128) ∧ 2 ≤ w.1 ∧ w.1 < 26 := by
  intro w h
  obtain ⟨i, hi⟩ := List.getElem?_of_mem h
  unfold inBodyL at hi
  rw [List.getElem?_mapIdx] at hi
  cases hn : ws[i]? with
  | none => simp [hn] at hi
  | some x =>
    simp only [hn, Option.map_some, Option.some.injEq] at hi
    subst hi
    have : i < ws.length := (List.getElem?_eq_some_iff.1 hn).1
    have h2 := hw x (List.mem_of_getElem? hn)
    exact ⟨⟨by show (0 : Int) ≤ 2 + (i : Int); omega, by show 2 + (i : Int) < (N : Int); omega, h2⟩, by show (2 : Int) ≤ 2 + (i : Int); omega, by show 2 + (i : Int) < 26; omega⟩
/-- The body's sectors, written one behind the other. -/
theorem lay_body {ws : List Wr} (k : Nat) (L : Secs2) (hl : k + ws.length + 2 ≤ L.length) : ∀ {i : Nat} {x : Wr}, ws[i]? = some x → (lay L (toW (ws.mapIdx fun i w => (2 + ((k + i : Nat) : Int), w.2))))[2 + (k + i)]? = some x.2 := by
  induction ws generalizing k L with
  | nil => intro i x h; simp at h
  | cons w r ih =>
    intro i x h
    have e : ((w :: r).mapIdx fun i w => ((2 + ((k + i : Nat) : Int), w.2) : Wr)) = (2 + ((k : Nat) : Int), w.2) :: r.mapIdx fun i w => (2 + ((k + 1 + i : Nat) : Int), w.2) := by
      rw [List.mapIdx_cons]
      congr 1
      apply congrArg (fun f => r.mapIdx f)
      funext i w
      rw [show k + (i + 1) = k + 1 + i by omega]
    rw [e]
    simp only [List.length_cons] at hl
    show (lay (L.set (2 + (k : Int)).toNat w.2) (toW _))[_]? = _
    have ek : (2 + (k : Int)).toNat = 2 + k := by omega
    rw [ek]
    cases i with
    | zero =>
      simp only [List.getElem?_cons_zero, Option.some.injEq] at h
      subst h
      rw [lay_not, Nat.add_zero, List.getElem?_set_self (by omega)]
      intro p hp
      simp only [toW, List.mem_map] at hp
      obtain ⟨v, hv, rfl⟩ := hp
      obtain ⟨j, hj⟩ := List.getElem?_of_mem hv
      rw [List.getElem?_mapIdx] at hj
      cases hn : r[j]? with
      | none => simp [hn] at hj
      | some y =>
        simp only [hn, Option.map_some, Option.some.injEq] at hj
        subst hj
        show (2 + ((k + 1 + j : Nat) : Int)).toNat ≠ _
        omega
    | succ i =>
      have h' : r[i]? = some x := by simpa using h
      have := ih (k + 1) (L.set (2 + k) w.2) (by rw [List.length_set]; omega) h'
      rw [show k + (i + 1) = k + 1 + i by omega]
      exact this
theorem bodyL_of {ws : List Wr} (h : ∀ i x, ws[i]? = some x → L[2 + i]? = some x.2) : bodyL L (ws.map (·.1)) = ws := by
  apply List.ext_getElem?
  intro i
  unfold bodyL
  rw [List.getElem?_mapIdx, List.getElem?_map]
  cases hn : ws[i]? with
  | none => rfl
  | some x =>
    simp only [Option.map_some]
    rw [h i x hn]
    rfl
theorem fit_facts {ws : List Wr} (h : fit N ws = true) : good (ws.map (·.1)) = true ∧ withinL N (ws.map (·.1)) = true ∧ (∀ w ∈ ws, w.2.length = 128) ∧ ws.length ≤ 24 := by
  have h0 : good (ws.map (·.1)) = true ∧ withinL N (ws.map (·.1)) = true ∧ wholeL ws = true := by
    unfold fit at h
    simpa using h
  refine ⟨h0.1, h0.2.1, fun w hw => ?_, by have := (good_iff.1 h0.1).1; simpa using this⟩
  have := List.all_eq_true.1 h0.2.2 w hw
  simpa using this
theorem commit_den (hN : 64 ≤ N) {ws : List Wr} (hO : OnS N s X) (hX : X.length = N) (hf : fit N ws = true) (hne : ws ≠ []) :
    (∃ s', s.commit N ws = (0, s') ∧ OnS N s' (lay X (toW ws)) ∧ s'.fused = s.fused) ∨ (∃ s', s.commit N ws = (11, s') ∧ s.fused = true ∧ s'.down = true ∧ Back N s' X (lay X (toW ws))) := by
  obtain ⟨L, hR, hw, hD⟩ := hO
  obtain ⟨hg, hin, h128, h24⟩ := fit_facts hf
  have hcom : s.commit N ws = s.log N ws := by
    unfold DS.commit
    rw [hR.now, hD.head, Option.getD_some, isHd_hd good_nil]
    simp [hne, hf, hR.down]
  rw [hcom]
  unfold DS.log
  have hib := inBody_facts hN h24 h128
  have hiblen := toW_len fun w h => (hib w h).1.2.2
  have hlog : ∀ p ∈ toW (inBodyL ws), inLog p.1 ∧ p.1 ≠ 1 := by
    intro p hp
    simp only [toW, List.mem_map] at hp
    obtain ⟨w, hw, rfl⟩ := hp
    have := (hib w hw).2
    exact ⟨⟨by omega, by omega⟩, by omega⟩
  have hpart : ∀ qs, (∀ q ∈ qs, q ∈ toW (inBodyL ws)) → DenN N (lay L qs) [] X := fun qs hq =>
    DenN.empty (by rw [lay_not _ (fun q hq' => (hlog q (hq q hq')).2)]; exact hD.head) fun i h1 h2 => by
      rw [lay_not (i := i) _ (fun q hq' e => h2 (by rw [← e]; exact (hlog q (hq q hq')).1))]
      exact hD.plain h1 h2
  rcases lasts_cases hR (fit0 fun w h => (hib w h).1) with ⟨s1, h1, h2, h3⟩ | ⟨s1, h1, h2, h3⟩
  · rw [h1]
    simp only [if_true]
    have hw1 := hw.lay hiblen
    have hD1 := hpart _ fun q hq => hq
    have hbody : ∀ i x, ws[i]? = some x → (lay L (toW (inBodyL ws)))[2 + i]? = some x.2 := fun i x hx => by
      have := lay_body 0 L (by rw [hw.len]; omega) hx
      simp only [Nat.zero_add] at this
      exact this
    generalize lay L (toW (inBodyL ws)) = L1 at *
    have hD2 : DenN N (L1.set 1 (hd (ws.map (·.1)))) (ws.map (·.1)) (lay X (toW ws)) := by
      have hb : bodyL (L1.set 1 (hd (ws.map (·.1)))) (ws.map (·.1)) = ws := bodyL_of fun i x hx => by
        rw [List.getElem?_set_ne (by omega)]; exact hbody i x hx
      refine ⟨hg, hin, by rw [List.getElem?_set_self (by rw [hw1.len]; omega)], fun i g1 g2 => ?_⟩
      rw [hb]
      refine lay_congr (by rw [List.length_set, hw1.len, hX]) ?_
      rw [List.getElem?_set_ne (fun e => g2 ⟨by omega, by omega⟩)]
      exact hD1.plain g1 g2
    have hb2 : bodyL (L1.set 1 (hd (ws.map (·.1)))) (ws.map (·.1)) = ws := bodyL_of fun i x hx => by
      rw [List.getElem?_set_ne (by omega)]; exact hbody i x hx
    rcases lasts_cases (ws := [(1, hd (ws.map (·.1)))]) h2 (hd_fit hN hg) with ⟨s2, k1, k2, k3⟩ | ⟨s2, k1, k2, k3⟩
    · have k1' : s1.head N (ws.map (·.1)) = (0, s2) := k1
      rw [k1']
      simp only [if_true]
      have := apply_den hN k2 (set_head hN hw1 hg) hD2
      rw [show (lay L1 (toW [(1, hd (ws.map (·.1)))])) = L1.set 1 (hd (ws.map (·.1))) from rfl, hb2] at this
      rcases this with ⟨s', g1, g2, g3⟩ | ⟨s', g1, g2, g3, g4⟩
      · exact .inl ⟨s', g1, g2, g3.trans (k3.trans h3)⟩
      · refine .inr ⟨s', g1, by rw [← h3, ← k3]; exact g2, g3, fun keep => ?_⟩
        obtain ⟨L', a, b, c, d⟩ := g4 keep
        exact ⟨L', a, b, c, .inr (d.elim id id)⟩
    · have k1' : s1.head N (ws.map (·.1)) = (11, s2) := k1
      rw [k1']
      refine .inr ⟨s2, by simp, by rw [← h3]; exact k3, k2.down, k2.back hw1 (fun p hp => ?_) fun qs hq => ?_⟩
      · simp only [toW, List.map_cons, List.map_nil, List.mem_singleton] at hp
        subst hp
        exact hd_len (good_iff.1 hg).1
      · rcases sub_one hq L1 with e | e
        · rw [e]; exact .inl ⟨_, hD1⟩
        · rw [e]; exact .inr ⟨_, hD2⟩
  · rw [h1]
    exact .inr ⟨s1, by simp, h3, h2.down, h2.back hw hiblen fun qs hq => .inl ⟨_, hpart qs hq⟩⟩
theorem OnS.back (h : OnS N s X) : Back N s X X := fun keep => by
  obtain ⟨L, hR, hw, hD⟩ := h
  obtain ⟨h1, h2⟩ := hR.again keep
  exact ⟨L, h1, h2, hw, .inl ⟨_, hD⟩⟩
theorem OnS.fuse_ (h : OnS N s X) (n : Int) : OnS N (s.fuse n) X := by
  obtain ⟨L, hR, hw, hD⟩ := h
  exact ⟨L, hR.fuse_ n, hw, hD⟩
theorem OnS.recover (hN : 64 ≤ N) (h : OnS N s X) : s.recover N = (0, s) := by
  obtain ⟨L, hR, hw, hD⟩ := h
  have hset : s.settle = (0, s) := by simp [DS.settle, hR.down, hR.now, hR.las]
  unfold DS.recover
  rw [hR.now, hD.head, Option.getD_some, isHd_hd good_nil]
  simp [hR.down, withinL, DS.finish, hset]
/-- Behind a restart of whatever lasts, Recover answers OK, and it is X or Y; also behind one that was cut off, and another restart. -/
theorem back_recover (hN : 64 ≤ N) {Y : Secs2} (h : Back N s X Y) (keep : List Int) : ∃ s', (s.restart keep).recover N = (0, s') ∧ (OnS N s' X ∨ OnS N s' Y) := by
  obtain ⟨L, hR, hf, hw, hD⟩ := h keep
  rcases hD with hD | hD
  · rcases recover_den hN hR hw hD with ⟨s', h1, h2, _⟩ | ⟨s', h1, h2, _⟩
    · exact ⟨s', h1, .inl h2⟩
    · rw [hf] at h2; cases h2
  · rcases recover_den hN hR hw hD with ⟨s', h1, h2, _⟩ | ⟨s', h1, h2, _⟩
    · exact ⟨s', h1, .inr h2⟩
    · rw [hf] at h2; cases h2
theorem back_again (hN : 64 ≤ N) {Y : Secs2} (h : Back N s X Y) (keep : List Int) (n : Int) : ∃ e s', (((s.restart keep).fuse n).recover N) = (e, s') ∧ (e = 0 ∨ e = 11) ∧ (Back N s' X X ∨ Back N s' Y Y) := by
  obtain ⟨L, hR, hf, hw, hD⟩ := h keep
  rcases hD with hD | hD
  · rcases recover_den hN (hR.fuse_ n) hw hD with ⟨s', h1, h2, _⟩ | ⟨s', h1, _, _, h2⟩
    · exact ⟨_, s', h1, .inl rfl, .inl h2.back⟩
    · exact ⟨_, s', h1, .inr rfl, .inl h2⟩
  · rcases recover_den hN (hR.fuse_ n) hw hD with ⟨s', h1, h2, _⟩ | ⟨s', h1, _, _, h2⟩
    · exact ⟨_, s', h1, .inl rfl, .inr h2.back⟩
    · exact ⟨_, s', h1, .inr rfl, .inr h2⟩
end
end Go.Proofs.Ytlhkkelpombbiaa
