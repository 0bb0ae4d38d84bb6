/- For 'change': how many sectors are new; a whole row stored at a step of a region that draws its order. -/
import Derived.Test.YtijbgdihnjnllaaGreatSSto
namespace Go.Proofs.YtijbgdihnjnllaaGreat
open Go.RowKit
set_option linter.unusedVariables false

/-- How many of the writes are of sectors that would not be others yet. -/
def newk (m ws : List Wr) : Nat := (ws.filter fun w => (find m w.1).isNone).length
def insAll (ws m : List Wr) : List Wr := ws.foldl (fun m w => ins w.1 w.2 m) m
theorem newk_take {m ws : List Wr} {k : Nat} {x : Wr} (h : ws[k]? = some x) : newk m (ws.take (k + 1)) = newk m (ws.take k) + (if (find m x.1).isNone then 1 else 0) := by
  unfold newk
  rw [List.take_add_one, h, List.filter_append, List.length_append]
  cases hf : (find m x.1).isNone <;> simp [hf]
theorem newk_le (m ws : List Wr) (k : Nat) : newk m (ws.take k) ≤ newk m ws := by
  unfold newk
  exact ((List.take_sublist k ws).filter _).length_le
theorem insAll_take {m ws : List Wr} {k : Nat} {x : Wr} (h : ws[k]? = some x) : insAll (ws.take (k + 1)) m = ins x.1 x.2 (insAll (ws.take k) m) := by
  unfold insAll
  rw [List.take_add_one, h, List.foldl_append]
  rfl
/-- There is room for the rest, whatever was laid already. -/
structure Room (N : Nat) (m ws : List Wr) : Prop where
  mok : MOk N m
  all : ∀ p ∈ ws, okn p.1 = true ∧ p.1 < N ∧ p.2.length = 128
  len : m.length + newk m ws ≤ 24
theorem newk_ins (m r : List Wr) (k : Int) (x : List UInt8) : newk (ins k x m) r ≤ newk m r := by
  unfold newk
  induction r with
  | nil => exact Nat.le_refl _
  | cons a r ih =>
    have e : (find (ins k x m) a.1).isNone = true → (find m a.1).isNone = true := by
      rw [find_ins]
      by_cases h : k = a.1
      · rw [if_pos h]; intro h; cases h
      · rw [if_neg h]; exact id
    rw [List.filter_cons, List.filter_cons]
    by_cases h1 : (find (ins k x m) a.1).isNone = true
    · rw [if_pos h1, if_pos (e h1), List.length_cons, List.length_cons]
      omega
    · rw [if_neg h1]
      split
      · rw [List.length_cons]; omega
      · exact ih
theorem Room.step {N : Nat} {m r : List Wr} {x : Wr} (h : Room N m (x :: r)) : Room N (ins x.1 x.2 m) r := by
  obtain ⟨a1, a2, a3⟩ := h.all x (by simp)
  have hl := h.len
  have h1 := newk_ins m r x.1 x.2
  have h2 : newk m (x :: r) = (if (find m x.1).isNone then 1 else 0) + newk m r := by
    unfold newk
    rw [List.filter_cons]
    cases (find m x.1).isNone <;> simp
    omega
  have h3 := ins_len h.mok.rise x.1 x.2
  refine ⟨h.mok.ins a1 a2 a3 ?_, fun p hp => h.all p (by simp [hp]), ?_⟩
  · cases hf : find m x.1 with
    | some y => left; simp
    | none =>
      right
      rw [hf] at h2
      simp at h2
      omega
  · cases hf : find m x.1 with
    | some y =>
      rw [hf] at h2 h3
      simp at h2 h3
      omega
    | none =>
      rw [hf] at h2 h3
      simp at h2 h3
      omega
theorem Room.all_ {N : Nat} : ∀ {ws m : List Wr}, Room N m ws → ∀ k, Room N (insAll (ws.take k) m) (ws.drop k)
  | [], m, h, k => by simpa [insAll] using h
  | x :: r, m, h, 0 => by simpa [insAll] using h
  | x :: r, m, h, k + 1 => by
    have := Room.all_ h.step k
    simpa [insAll] using this
end Go.Proofs.YtijbgdihnjnllaaGreat
