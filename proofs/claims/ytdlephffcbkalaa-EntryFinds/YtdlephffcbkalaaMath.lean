/- Plain mathematics: what the laws say of entries. -/
import Derived.Test.YtdlephffcbkalaaPlain
import Derived.Lib.SlicesCompact
import Derived.Lib.RowBridge
namespace Go.Proofs.Ytdlephffcbkalaa
set_option linter.unusedVariables false

theorem compactUpTo_len {d : Array (List UInt8)} : ∀ (m : Nat), (Lib.compactUpTo d m).length ≤ m
  | 0 => by simp [Lib.compactUpTo]
  | m + 1 => by
    rw [Lib.compactUpTo_succ, List.length_append]
    have := compactUpTo_len (d := d) m
    split <;> simp <;> omega
theorem compactUpTo_eq {d : Array (List UInt8)} : ∀ (m : Nat), (Lib.compactUpTo d m).length = m → ∀ j, j < m → Lib.keeps d j = true
  | 0, _, j, hj => by omega
  | m + 1, h, j, hj => by
    rw [Lib.compactUpTo_succ, List.length_append] at h
    have h1 := compactUpTo_len (d := d) m
    by_cases hk : Lib.keeps d m = true
    · rw [if_pos hk] at h
      by_cases e : j = m
      · subst e; exact hk
      · exact compactUpTo_eq m (by simpa using h) j (by omega)
    · rw [if_neg hk] at h
      simp at h
      omega
/-- Names that are in order: as many stay as there are, just if none is there twice. -/
theorem compact_nodup {l : List (List UInt8)} (hs : l.Pairwise (· ≤ ·)) : (Lib.compact l).length < l.length ↔ ¬ l.Nodup := by
  have hle := Lib.compact_length_le l
  constructor
  · intro h hn
    have : Lib.compact l = l := by
      refine Lib.compact_all l fun j hj => ?_
      unfold Lib.keeps
      rw [decide_eq_true_eq]
      by_cases h0 : j = 0
      · exact .inl h0
      · refine .inr ?_
        have h1 : l.toArray[j]! = l[j] := by simp [getElem!_pos, hj]
        have h2 : l.toArray[j - 1]! = l[j - 1] := by simp [getElem!_pos, show j - 1 < l.length by omega]
        rw [h1, h2]
        intro e
        have hp := List.pairwise_iff_getElem.1 hn (j - 1) j (by omega) hj (by omega)
        exact hp e.symm
    rw [this] at h
    omega
  · intro hn
    rcases Nat.lt_or_ge (Lib.compact l).length l.length with h | h
    · exact h
    · exfalso
      apply hn
      have he : (Lib.compactUpTo l.toArray l.length).length = l.length := Nat.le_antisymm hle h
      have hk := compactUpTo_eq (d := l.toArray) l.length he
      have hlt : l.Pairwise (· < ·) := by
        rw [List.pairwise_iff_getElem]
        have step : ∀ j (h1 : j + 1 < l.length), l[j] < l[j + 1] := by
          intro j h1
          have := hk (j + 1) h1
          unfold Lib.keeps at this
          rw [decide_eq_true_eq] at this
          have e1 : l.toArray[j + 1]! = l[j + 1] := by simp [getElem!_pos, h1]
          have e2 : l.toArray[j + 1 - 1]! = l[j] := by simp [getElem!_pos, show j < l.length by omega]
          rw [e1, e2] at this
          have hne : l[j + 1] ≠ l[j] := this.resolve_left (by omega)
          have hle' : l[j] ≤ l[j + 1] := List.pairwise_iff_getElem.1 hs j (j + 1) (by omega) h1 (by omega)
          exact Std.lt_of_le_of_ne hle' fun e => hne e.symm
        intro i j hi hj hij
        have key : ∀ d, ∀ (h : i + 1 + d < l.length), l[i] < l[i + 1 + d] := by
          intro d
          induction d with
          | zero => intro h; exact step i h
          | succ d ih => intro h; exact List.lt_trans (ih (by omega)) (step (i + 1 + d) h)
        have := key (j - i - 1) (by omega)
        simpa [show i + 1 + (j - i - 1) = j by omega] using this
      exact hlt.imp fun h e => by rw [e] at h; exact List.lt_irrefl _ h
theorem compact_srt (l : List (List UInt8)) : (Lib.compact (srt l)).length < (srt l).length ↔ ¬ l.Nodup := by
  rw [compact_nodup (srt_sorted l), (srt_perm l).nodup_iff]
end Go.Proofs.Ytdlephffcbkalaa
