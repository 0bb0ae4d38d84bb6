/- Plain mathematics: what is found, what is put; entries one by one. -/
import Derived.Test.YtdlephffcbkalaaFind
import Derived.Test.YtdlephffcbkalaaMath
namespace Go.Proofs.Ytdlephffcbkalaa
set_option linter.unusedVariables false

theorem find_none {l : List Rw} {s : List UInt8} : find l s = none ↔ s ∉ nms l := by
  unfold find
  split
  · rename_i h
    subst h
    simp [mem_nms]
  · rename_i h
    rw [List.findIdx?_eq_none_iff]
    constructor
    · intro h1 h2
      obtain ⟨_, r, hr, rfl⟩ := mem_nms.1 h2
      have := h1 r hr
      simp at this
    · intro h1 r hr
      simp only [decide_eq_false_iff_not]
      intro e
      exact h1 (mem_nms.2 ⟨h, r, hr, e⟩)
/-- Entries, each of which is one, and no name is there twice. -/
def gd (b : List UInt8) (k : Nat) : Bool := (List.range k).all fun j => (dec (prt b j)).isSome && (find (rws b j) ((dec (prt b j)).getD emp).1).isNone
theorem gd_succ (b : List UInt8) (k : Nat) : gd b (k + 1) = (gd b k && ((dec (prt b k)).isSome && (find (rws b k) ((dec (prt b k)).getD emp).1).isNone)) := by
  unfold gd
  rw [List.range_succ, List.all_append]
  simp
theorem nms_nodup_snoc {l : List Rw} {r : Rw} : (nms (l ++ [r])).Nodup ↔ (nms l).Nodup ∧ find l r.1 = none := by
  rw [nms_snoc, find_none]
  by_cases h : r.1 = []
  · rw [if_pos h, List.append_nil]
    constructor
    · intro hn
      refine ⟨hn, fun hm => ?_⟩
      exact (mem_nms.1 hm).1 h
    · exact fun hn => hn.1
  · rw [if_neg h, List.nodup_append]
    constructor
    · intro ⟨h1, _, h3⟩
      exact ⟨h1, fun hm => h3 r.1 hm r.1 (by simp) rfl⟩
    · intro ⟨h1, h2⟩
      refine ⟨h1, by simp, fun a ha c hc => ?_⟩
      rw [List.mem_singleton] at hc
      subst hc
      exact fun e => h2 (e ▸ ha)
theorem gd_iff (b : List UInt8) : ∀ k, gd b k = true ↔ oks b k = true ∧ (nms (rws b k)).Nodup
  | 0 => by simp [gd, oks, rws, nms]
  | k + 1 => by
    rw [gd_succ, oks_succ, rws_succ, nms_nodup_snoc, Bool.and_eq_true, Bool.and_eq_true, Bool.and_eq_true, gd_iff b k, Option.isNone_iff_eq_none]
    constructor
    · rintro ⟨⟨h1, h2⟩, h3, h4⟩
      exact ⟨⟨h1, h3⟩, h2, h4⟩
    · rintro ⟨⟨h1, h3⟩, h2, h4⟩
      exact ⟨⟨h1, h2⟩, h3, h4⟩
theorem gd_mono {b : List UInt8} {k m : Nat} (h : gd b m = true) (hk : k ≤ m) : gd b k = true := by
  unfold gd at *
  rw [List.all_eq_true] at *
  intro i hi
  rw [List.mem_range] at hi
  exact h i (by rw [List.mem_range]; omega)
theorem slots_gd {b : List UInt8} {l : List Rw} (h : slots b = some l) : gd b (nch b) = true ∧ l = rws b (nch b) ∧ b.length % 32 = 0 ∧ b.length = 32 * nch b := by
  obtain ⟨h1, h2, rfl⟩ := slots_some h
  have h3 := oks_whole h1
  exact ⟨(gd_iff b _).2 ⟨h1, h2⟩, rfl, by omega, h3⟩
theorem gd_slots {b : List UInt8} {k : Nat} (h1 : gd b k = true) (h2 : b.length = 32 * k) : slots b = some (rws b k) := by
  have hk : nch b = k := by unfold nch; omega
  obtain ⟨h3, h4⟩ := (gd_iff b k).1 h1
  rw [← hk] at h3 h4 ⊢
  exact slots_yes h3 h4
/-- A new entry where Place says. -/
def puts (l : List Rw) (r : Rw) : List Rw := if place l < l.length then l.set (place l) r else l ++ [r]
theorem place_le (l : List Rw) : place l ≤ l.length := by
  unfold place
  cases h : l.findIdx? fun r => decide (r = emp) with
  | none => simp
  | some k =>
    rw [List.findIdx?_eq_some_iff_getElem] at h
    obtain ⟨hk, _⟩ := h
    exact Nat.le_of_lt hk
theorem place_emp {l : List Rw} (h : place l < l.length) : l[place l]? = some emp := by
  unfold place at *
  cases he : l.findIdx? fun r => decide (r = emp) with
  | none => rw [he] at h; simp at h
  | some k =>
    rw [List.findIdx?_eq_some_iff_getElem] at he
    obtain ⟨hk, h1, _⟩ := he
    rw [Option.getD_some, List.getElem?_eq_getElem hk]
    simpa using h1
theorem find_first {l : List Rw} {k : Nat} {r : Rw} (hn : r.1 ≠ []) (hr : l[k]? = some r) (h : ∀ j r', j < k → l[j]? = some r' → r'.1 ≠ r.1) : find l r.1 = some k := by
  unfold find
  rw [if_neg hn]
  refine fst_hit hr (by simp) ?_
  rw [List.all_eq_true]
  intro x hx
  obtain ⟨j, hj, rfl⟩ := List.mem_take_iff_getElem.1 hx
  have := h j l[j] (by omega) (List.getElem?_eq_getElem _)
  simpa using this
theorem not_in {l : List Rw} {s : List UInt8} (hs : s ≠ []) (h : s ∉ nms l) : ∀ (j : Nat) (r' : Rw), l[j]? = some r' → r'.1 ≠ s := by
  intro j r' hr e
  exact h (mem_nms.2 ⟨hs, r', List.mem_of_getElem? hr, e⟩)
theorem find_puts {l : List Rw} {r : Rw} (hn : r.1 ≠ []) (h : r.1 ∉ nms l) : find (puts l r) r.1 = some (place l) := by
  unfold puts
  split
  · rename_i hlt
    refine find_first hn (by rw [List.getElem?_set_self hlt]) fun j r' hj hr' => ?_
    rw [List.getElem?_set_ne (by omega)] at hr'
    exact not_in hn h j r' hr'
  · rename_i hlt
    have := place_le l
    have hp : place l = l.length := by omega
    refine find_first hn (by rw [hp]; simp) fun j r' hj hr' => ?_
    rw [List.getElem?_append_left (by omega)] at hr'
    exact not_in hn h j r' hr'
theorem nms_append (a b : List Rw) : nms (a ++ b) = nms a ++ nms b := by
  unfold nms
  rw [List.map_append, List.filter_append]
theorem perm_puts {l : List Rw} {r : Rw} (hn : r.1 ≠ []) : (nms (puts l r)).Perm (nms l ++ [r.1]) := by
  unfold puts
  split
  · rename_i hlt
    have he := place_emp hlt
    obtain ⟨hk, e⟩ := List.getElem?_eq_some_iff.1 he
    have h1 : l.set (place l) r = l.take (place l) ++ ([r] ++ l.drop (place l + 1)) := by
      rw [List.set_eq_take_append_cons_drop, if_pos hlt]
      rfl
    have h2 : l = l.take (place l) ++ ([emp] ++ l.drop (place l + 1)) := by
      conv => lhs; rw [← List.take_append_drop (place l) l, List.drop_eq_getElem_cons hk, e]
      rfl
    have h3 : nms [r] = [r.1] := by simp [nms, hn]
    have h4 : nms [emp] = [] := by simp [nms, emp]
    rw [h1]
    conv => rhs; rw [h2]
    simp only [nms_append, h3, h4, List.nil_append, List.append_assoc]
    exact List.Perm.append_left _ (List.perm_append_comm)
  · rw [nms_snoc, if_neg hn]
theorem srt_strict {l : List (List UInt8)} (h : l.Nodup) : ∀ i j (hi : i < (srt l).length) (hj : j < (srt l).length), i < j → ¬ (srt l)[j] ≤ (srt l)[i] := by
  intro i j hi hj hij hle
  have h1 := List.pairwise_iff_getElem.1 (srt_sorted l) i j hi hj hij
  have h2 := List.le_antisymm h1 hle
  have h3 : (srt l).Nodup := (srt_perm l).nodup_iff.2 h
  exact List.pairwise_iff_getElem.1 h3 i j hi hj hij h2
theorem puts_len (l : List Rw) (r : Rw) : (puts l r).length ≤ l.length + 1 := by
  unfold puts
  split <;> simp
end Go.Proofs.Ytdlephffcbkalaa
