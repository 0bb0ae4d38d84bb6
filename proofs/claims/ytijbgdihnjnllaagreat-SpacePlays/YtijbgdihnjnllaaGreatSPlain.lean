/- Plain mathematics: the sectors that would be others, as a rising list of writes; a sector as it would be. No program. -/
import Derived.Test.YtijbgdihnjnllaaGreatMRc
namespace Go.Proofs.YtijbgdihnjnllaaGreat
set_option linter.unusedVariables false

def insW (p : Wr) : List Wr → List Wr
  | [] => [p]
  | q :: r => if p.1 < q.1 then p :: q :: r else q :: insW p r
/-- One sector more that would be another one. -/
def ins (k : Int) (x : List UInt8) (m : List Wr) : List Wr := insW (k, x) (m.filter fun p => !(p.1 == k))
def find (m : List Wr) (k : Int) : Option (List UInt8) := (m.find? fun p => p.1 == k).map (·.2)
def Rising (m : List Wr) : Prop := m.Pairwise fun p q => p.1 < q.1
structure MOk (N : Nat) (m : List Wr) : Prop where
  rise : Rising m
  all : ∀ p ∈ m, okn p.1 = true ∧ p.1 < N ∧ p.2.length = 128
  len : m.length ≤ 24
/-- A sector, as it would be. -/
def view (X : Secs2) (m : List Wr) (n : Nat) : List UInt8 := (find m n).getD (X[n]?.getD [])

theorem insW_len (p : Wr) : ∀ l, (insW p l).length = l.length + 1
  | [] => rfl
  | q :: r => by unfold insW; split; · rfl
                 · simp [insW_len p r]
theorem insW_mem (p q : Wr) : ∀ l, q ∈ insW p l ↔ q = p ∨ q ∈ l
  | [] => by simp [insW]
  | a :: r => by
    unfold insW
    split
    · simp
    · simp only [List.mem_cons, insW_mem p q r]
      constructor
      · rintro (h | h | h); exact .inr (.inl h); exact .inl h; exact .inr (.inr h)
      · rintro (h | h | h); exact .inr (.inl h); exact .inl h; exact .inr (.inr h)
theorem insW_find (p : Wr) (j : Int) : ∀ l, (∀ q ∈ l, p.1 ≠ q.1) → (insW p l).find? (fun q => q.1 == j) = if p.1 = j then some p else l.find? (fun q => q.1 == j)
  | [], _ => by
    unfold insW
    by_cases h : p.1 = j
    · simp [h]
    · simp [h]
  | a :: r, ha => by
    have ih := insW_find p j r fun q hq => ha q (by simp [hq])
    unfold insW
    split
    · by_cases h : p.1 = j
      · simp [h]
      · simp [h]
    · rw [List.find?_cons, List.find?_cons, ih]
      by_cases h : p.1 = j
      · have : (a.1 == j) = false := by rw [beq_eq_false_iff_ne]; intro e; exact ha a (by simp) (h.trans e.symm)
        rw [this]
      · simp [h]
theorem insW_rise (p : Wr) : ∀ l, Rising l → (∀ q ∈ l, p.1 ≠ q.1) → Rising (insW p l)
  | [], _, _ => List.pairwise_singleton _ _
  | a :: r, h, ha => by
    unfold Rising at h
    rw [List.pairwise_cons] at h
    unfold insW Rising
    split
    · rename_i hlt
      rw [List.pairwise_cons]
      refine ⟨fun q hq => ?_, List.pairwise_cons.2 h⟩
      rcases List.mem_cons.1 hq with rfl | hq
      · exact hlt
      · exact Int.lt_trans hlt (h.1 q hq)
    · rename_i hlt
      rw [List.pairwise_cons]
      refine ⟨fun q hq => ?_, insW_rise p r h.2 fun q hq => ha q (by simp [hq])⟩
      rcases (insW_mem p q r).1 hq with rfl | hq
      · have := ha a (by simp); omega
      · exact h.1 q hq
theorem filt_ne (k : Int) (m : List Wr) : ∀ q ∈ m.filter (fun p => !(p.1 == k)), k ≠ q.1 := by
  intro q hq e
  have := (List.mem_filter.1 hq).2
  simp [← e] at this
theorem find_filt {m : List Wr} {j k : Int} (h : k ≠ j) : (m.filter fun p => !(p.1 == k)).find? (fun q => q.1 == j) = m.find? (fun q => q.1 == j) := by
  induction m with
  | nil => rfl
  | cons a r ih =>
    by_cases ha : a.1 = k
    · have e1 : (a.1 == j) = false := by rw [beq_eq_false_iff_ne]; exact fun e => h (ha.symm.trans e)
      have e2 : (!(a.1 == k)) = false := by simp [ha]
      rw [List.filter_cons_of_neg (by rw [e2]; simp), List.find?_cons, e1, ih]
    · have e2 : (!(a.1 == k)) = true := by simp [ha]
      rw [List.filter_cons_of_pos (by exact e2), List.find?_cons, List.find?_cons, ih]
theorem find_ins (m : List Wr) (k j : Int) (x : List UInt8) : find (ins k x m) j = if k = j then some x else find m j := by
  unfold find ins
  rw [insW_find _ _ _ (filt_ne k m)]
  by_cases h : k = j
  · simp [h]
  · rw [if_neg h, if_neg h, find_filt h]
theorem ins_rise {m : List Wr} (h : Rising m) (k : Int) (x : List UInt8) : Rising (ins k x m) :=
  insW_rise _ _ (List.Pairwise.filter _ h) (filt_ne k m)
theorem find_none_iff {m : List Wr} {k : Int} : find m k = none ↔ ∀ p ∈ m, p.1 ≠ k := by
  unfold find
  rw [Option.map_eq_none_iff, List.find?_eq_none]
  constructor
  · intro h p hp e; exact h p hp (by simp [e])
  · intro h p hp e; exact h p hp (by simpa using e)
theorem ins_len {m : List Wr} (h : Rising m) (k : Int) (x : List UInt8) : (ins k x m).length = if find m k = none then m.length + 1 else m.length := by
  unfold ins
  rw [insW_len]
  split
  · rename_i hn
    rw [List.filter_eq_self.2]
    intro p hp
    have := find_none_iff.1 hn p hp
    simp [this]
  · rename_i hn
    induction m with
    | nil => exact absurd rfl hn
    | cons a r ih =>
      have hr := List.pairwise_cons.1 (show List.Pairwise _ _ from h)
      by_cases ha : a.1 = k
      · have e2 : ¬ (!(a.1 == k)) = true := by simp [ha]
        rw [List.filter_cons_of_neg (by exact e2), List.filter_eq_self.2, List.length_cons]
        intro p hp
        have := hr.1 p hp
        have : p.1 ≠ k := by omega
        simp [this]
      · have e2 : (!(a.1 == k)) = true := by simp [ha]
        rw [List.filter_cons_of_pos (by exact e2), List.length_cons, List.length_cons, ih hr.2]
        intro hf
        apply hn
        rw [find_none_iff] at hf ⊢
        intro p hp
        rcases List.mem_cons.1 hp with rfl | hp
        · exact ha
        · exact hf p hp
theorem MOk.nil (N : Nat) : MOk N [] := ⟨List.Pairwise.nil, by simp, by simp⟩
theorem MOk.ins {N : Nat} {m : List Wr} (h : MOk N m) {k : Int} {x : List UInt8} (hk : okn k = true) (hN : k < N) (hx : x.length = 128) (hl : find m k ≠ none ∨ m.length < 24) : MOk N (ins k x m) := by
  refine ⟨ins_rise h.rise k x, fun p hp => ?_, ?_⟩
  · unfold YtijbgdihnjnllaaGreat.ins at hp
    rcases (insW_mem _ _ _).1 hp with rfl | hp
    · exact ⟨hk, hN, hx⟩
    · exact h.all p (List.mem_filter.1 hp).1
  · rw [ins_len h.rise]
    have := h.len
    split
    · rename_i e
      rcases hl with h1 | h1
      · exact absurd e h1
      · omega
    · omega
theorem MOk.fit {N : Nat} {m : List Wr} (h : MOk N m) : fit N m = true := by
  unfold YtijbgdihnjnllaaGreat.fit
  rw [Bool.and_eq_true, Bool.and_eq_true]
  refine ⟨good_iff.2 ⟨by simpa using h.len, ?_, ?_⟩, ?_, ?_⟩
  · intro n hn
    obtain ⟨p, hp, rfl⟩ := List.mem_map.1 hn
    exact (h.all p hp).1
  · exact List.pairwise_map.2 (List.Pairwise.imp (fun {a b} hab => by show a.1 ≠ b.1; omega) h.rise)
  · unfold withinL
    rw [List.all_eq_true]
    intro n hn
    obtain ⟨p, hp, rfl⟩ := List.mem_map.1 hn
    have h1 := (okn_iff.1 (h.all p hp).1).1
    have h2 := (h.all p hp).2.1
    simp [h1, h2]
  · unfold wholeL
    rw [List.all_eq_true]
    intro p hp
    simp [(h.all p hp).2.2]
theorem view_ins (X : Secs2) (m : List Wr) (k : Nat) (x : List UInt8) (n : Nat) : view X (ins k x m) n = if k = n then x else view X m n := by
  unfold view
  rw [find_ins]
  by_cases h : k = n
  · subst h; simp
  · rw [if_neg (by omega), if_neg h]
theorem view_nil (X : Secs2) (n : Nat) : view X [] n = X[n]?.getD [] := rfl
theorem mem_find {m : List Wr} (h : Rising m) {p : Wr} (hp : p ∈ m) : find m p.1 = some p.2 := by
  induction m with
  | nil => cases hp
  | cons a r ih =>
    have hr := List.pairwise_cons.1 (show List.Pairwise _ _ from h)
    unfold find
    rw [List.find?_cons]
    rcases List.mem_cons.1 hp with rfl | hp'
    · simp
    · have := hr.1 p hp'
      have e : (a.1 == p.1) = false := by rw [beq_eq_false_iff_ne]; omega
      rw [e]
      exact ih hr.2 hp'
/-- What is committed is as it would be. -/
theorem lay_view {N : Nat} {X : Secs2} (hX : X.length = N) : ∀ {m : List Wr}, Rising m → (∀ p ∈ m, 0 ≤ p.1 ∧ p.1 < N) → ∀ n, n < N → (lay X (toW m))[n]? = some (view X m n) := by
  intro m hr ha n hn
  cases hf : find m n with
  | none =>
    rw [lay_not]
    · unfold view
      rw [hf, Option.getD_none, List.getElem?_eq_getElem (by omega)]
      rfl
    · intro p hp e
      simp only [toW, List.mem_map] at hp
      obtain ⟨q, hq, rfl⟩ := hp
      have := (ha q hq).1
      exact find_none_iff.1 hf q hq (by simp at e; omega)
  | some x =>
    have hv : view X m n = x := by unfold view; rw [hf]; rfl
    rw [hv]
    clear hv
    induction m generalizing X with
    | nil => cases hf
    | cons a r ih =>
      have hr' := List.pairwise_cons.1 (show List.Pairwise _ _ from hr)
      have h0 := ha a (by simp)
      show (lay X ((a.1.toNat, a.2) :: toW r))[n]? = _
      rw [lay_cons]
      by_cases e : a.1 = n
      · have e2 : a.1.toNat = n := by omega
        have hx : x = a.2 := by
          unfold find at hf
          rw [List.find?_cons] at hf
          simp [e] at hf
          exact hf.symm
        rw [lay_not, e2, List.getElem?_set_self (by omega), hx]
        intro p hp e3
        simp only [toW, List.mem_map] at hp
        obtain ⟨q, hq, rfl⟩ := hp
        have := hr'.1 q hq
        simp at e3
        omega
      · refine ih (by simpa using hX) hr'.2 (fun p hp => ha p (by simp [hp])) ?_
        unfold find at hf ⊢
        rw [List.find?_cons] at hf
        have e1 : (a.1 == (n : Int)) = false := by rw [beq_eq_false_iff_ne]; exact e
        rw [e1] at hf
        exact hf
end Go.Proofs.YtijbgdihnjnllaaGreat
