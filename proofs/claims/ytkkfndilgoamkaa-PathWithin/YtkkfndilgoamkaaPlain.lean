/- Plain mathematics: names, the parts of a path, what is split and joined. -/
import Derived.Lib.Join
import Derived.Lib.IndexMore
namespace Go.Proofs.Ytkkfndilgoamkaa

/-- May a name have it? -/
def signB (b : UInt8) : Bool := (decide (97 ≤ b) && decide (b ≤ 122)) || (decide (65 ≤ b) && decide (b ≤ 90)) || (decide (48 ≤ b) && decide (b ≤ 57)) || b == 46 || b == 95 || b == 45
/-- A name. -/
def nameB (l : List UInt8) : Bool := decide (1 ≤ l.length) && decide (l.length ≤ 24) && l != [46] && l != [46, 46] && l.all signB
/-- What stands between / and /. -/
def parts : List UInt8 → List (List UInt8)
  | [] => [[]]
  | c :: r => if c = 47 then [] :: parts r else match parts r with
    | [] => [[c]]
    | p :: ps => (c :: p) :: ps
/-- The names that are left, thing by thing. -/
def goes : List (List UInt8) → List (List UInt8) → List (List UInt8) × Int
  | ns, [] => (ns, 0)
  | ns, p :: ps => if p = [46, 46] then goes ns.dropLast ps else if p = [] ∨ p = [46] then goes ns ps else if nameB p = false then ([], 6) else if ns.length = 8 then ([], 4) else goes (ns ++ [p]) ps
def split (s : List UInt8) : List (List UInt8) × Int :=
  if 96 < s.length then ([], 17) else match s with
    | [] => ([], 5)
    | c :: r => if c = 47 then goes [] (parts r) else ([], 5)
/-- / ahead of each. -/
def joinT (ns : List (List UInt8)) : List UInt8 := ns.flatMap (47 :: ·)
def joinL (ns : List (List UInt8)) : List UInt8 := if ns = [] then [47] else joinT ns
def joinE (ns : List (List UInt8)) : Int := if 8 < ns.length then 4 else if ns.all nameB = false then 6 else if 96 < (joinL ns).length then 17 else 0
def joinS (ns : List (List UInt8)) : List UInt8 := if joinE ns = 0 then joinL ns else []

theorem parts_none {p : List UInt8} (h : 47 ∉ p) : parts p = [p] := by
  induction p with
  | nil => rfl
  | cons c r ih =>
    have h1 : c ≠ 47 := fun e => h (by simp [e])
    have h2 : 47 ∉ r := fun e => h (by simp [e])
    simp [parts, h1, ih h2]
theorem parts_cut {p r : List UInt8} (h : 47 ∉ p) : parts (p ++ 47 :: r) = p :: parts r := by
  induction p with
  | nil => simp [parts]
  | cons c q ih =>
    have h1 : c ≠ 47 := fun e => h (by simp [e])
    have h2 : 47 ∉ q := fun e => h (by simp [e])
    simp [parts, h1, ih h2]
theorem parts_ne (l : List UInt8) : parts l ≠ [] := by
  cases l with
  | nil => simp [parts]
  | cons c r =>
    simp only [parts]
    split
    · simp
    · split <;> simp
theorem parts_len (l : List UInt8) : (joinT (parts l)).length = l.length + 1 := by
  induction l with
  | nil => rfl
  | cons c r ih =>
    by_cases h : c = 47
    · simp only [parts, h, if_true]
      simp only [joinT, List.flatMap_cons, List.length_append, List.length_cons, List.length_nil] at ih ⊢
      omega
    · obtain ⟨p, ps, e⟩ : ∃ p ps, parts r = p :: ps := by
        cases e : parts r with
        | nil => exact absurd e (parts_ne r)
        | cons p ps => exact ⟨p, ps, rfl⟩
      rw [e] at ih
      simp only [parts, h, if_false, e]
      simp only [joinT, List.flatMap_cons, List.length_append, List.length_cons] at ih ⊢
      omega

theorem sign47 : signB 47 = false := by decide
theorem name_parts {p : List UInt8} (h : nameB p = true) : 47 ∉ p ∧ p ≠ [] ∧ p ≠ [46] ∧ p ≠ [46, 46] ∧ p.length ≤ 24 := by
  simp only [nameB, Bool.and_eq_true, decide_eq_true_eq, bne_iff_ne] at h
  obtain ⟨⟨⟨⟨h1, h2⟩, h3⟩, h4⟩, h5⟩ := h
  refine ⟨fun hm => ?_, fun e => by simp [e] at h1, h3, h4, h2⟩
  have := List.all_eq_true.1 h5 _ hm
  rw [sign47] at this
  cases this
theorem goes_name {ns ps : List (List UInt8)} {p : List UInt8} (hp : nameB p = true) (hn : ns.length ≠ 8) : goes ns (p :: ps) = goes (ns ++ [p]) ps := by
  obtain ⟨_, h1, h2, h3, _⟩ := name_parts hp
  simp [goes, h1, h2, h3, hp, hn]

theorem goes_up {ns ps : List (List UInt8)} : goes ns ([46, 46] :: ps) = goes ns.dropLast ps := by simp [goes]
theorem goes_skip {ns ps : List (List UInt8)} {p : List UInt8} (h1 : ¬ p = [46, 46]) (h2 : p = [] ∨ p = [46]) : goes ns (p :: ps) = goes ns ps := by simp [goes, h1, h2]
theorem goes_bad {ns ps : List (List UInt8)} {p : List UInt8} (h1 : ¬ p = [46, 46]) (h2 : ¬ (p = [] ∨ p = [46])) (h3 : nameB p = false) : goes ns (p :: ps) = ([], 6) := by simp [goes, h1, h2, h3]
theorem goes_deep {ns ps : List (List UInt8)} {p : List UInt8} (h1 : ¬ p = [46, 46]) (h2 : ¬ (p = [] ∨ p = [46])) (h3 : nameB p = true) (h4 : ns.length = 8) : goes ns (p :: ps) = ([], 4) := by simp [goes, h1, h2, h3, h4]
theorem goes_keeps : ∀ (ps ns : List (List UInt8)), ns.all nameB = true → ns.length ≤ 8 → (goes ns ps).1.all nameB = true ∧ (goes ns ps).1.length ≤ 8
  | [], ns, h, hl => ⟨h, hl⟩
  | p :: ps, ns, h, hl => by
    have hd : ns.dropLast.all nameB = true := by
      rw [List.all_eq_true] at h ⊢
      exact fun x hx => h x (List.dropLast_subset _ hx)
    by_cases h1 : p = [46, 46]
    · simp only [goes, h1, if_true]
      exact goes_keeps ps _ hd (by rw [List.length_dropLast]; omega)
    by_cases h2 : p = [] ∨ p = [46]
    · simp only [goes, h1, h2, if_true, if_false]
      exact goes_keeps ps _ h hl
    by_cases h3 : nameB p = false
    · simp only [goes, h1, h2, h3, if_true, if_false]
      exact ⟨rfl, by simp⟩
    by_cases h4 : ns.length = 8
    · simp only [goes, h1, h2, h3, h4, if_true, if_false]
      exact ⟨rfl, by simp⟩
    · rw [goes_name (by simpa using h3) h4]
      refine goes_keeps ps _ ?_ (by simp; omega)
      rw [List.all_append, h]
      simpa using h3
theorem joinT_dropLast (ns : List (List UInt8)) : (joinT ns.dropLast).length ≤ (joinT ns).length := by
  rcases List.eq_nil_or_concat ns with rfl | ⟨l, x, rfl⟩
  · simp
  · simp [joinT]
theorem goes_len : ∀ (ps ns : List (List UInt8)), (joinT (goes ns ps).1).length ≤ (joinT ns).length + (joinT ps).length
  | [], ns => by simp [goes]
  | p :: ps, ns => by
    have hp : (joinT (p :: ps)).length = p.length + 1 + (joinT ps).length := by simp [joinT]; omega
    rw [hp]
    by_cases h1 : p = [46, 46]
    · simp only [goes, h1, if_true]
      have := goes_len ps ns.dropLast
      have := joinT_dropLast ns
      omega
    by_cases h2 : p = [] ∨ p = [46]
    · simp only [goes, h1, h2, if_true, if_false]
      have := goes_len ps ns
      omega
    by_cases h3 : nameB p = false
    · simp only [goes, h1, h2, h3, if_true, if_false]
      simp [joinT]
    by_cases h4 : ns.length = 8
    · simp only [goes, h1, h2, h3, h4, if_true, if_false]
      simp [joinT]
    · rw [goes_name (by simpa using h3) h4]
      have := goes_len ps (ns ++ [p])
      have e : (joinT (ns ++ [p])).length = (joinT ns).length + (p.length + 1) := by simp [joinT]
      omega
theorem goes_all : ∀ (ps ns : List (List UInt8)), ps.all nameB = true → ns.length + ps.length ≤ 8 → goes ns ps = (ns ++ ps, 0)
  | [], ns, _, _ => by simp [goes]
  | p :: ps, ns, h, hl => by
    simp only [List.all_cons, Bool.and_eq_true] at h
    simp only [List.length_cons] at hl
    rw [goes_name h.1 (by omega), goes_all ps _ h.2 (by simp; omega)]
    simp
theorem parts_joinT : ∀ (ps : List (List UInt8)) (p : List UInt8), 47 ∉ p → ps.all nameB = true → parts (p ++ joinT ps) = p :: ps
  | [], p, h, _ => by simp [joinT, parts_none h]
  | q :: ps, p, h, hq => by
    simp only [List.all_cons, Bool.and_eq_true] at hq
    have e : p ++ joinT (q :: ps) = p ++ 47 :: (q ++ joinT ps) := by simp [joinT]
    rw [e, parts_cut h, parts_joinT ps q (name_parts hq.1).1 hq.2]

theorem split_good (s : List UInt8) : (split s).1.all nameB = true ∧ (split s).1.length ≤ 8 := by
  unfold split
  split
  · exact ⟨rfl, by simp⟩
  · split
    · exact ⟨rfl, by simp⟩
    · split
      · exact goes_keeps _ _ rfl (by simp)
      · exact ⟨rfl, by simp⟩
theorem split_len (s : List UInt8) (h : (split s).2 = 0) : (joinL (split s).1).length ≤ s.length ∧ s.length ≤ 96 := by
  unfold split at h ⊢
  split at h
  · cases h
  · rename_i hl
    rw [if_neg hl]
    refine ⟨?_, by omega⟩
    split at h
    · cases h
    · rename_i c r
      split at h
      · rename_i hc
        simp only [hc, if_true]
        have h1 := goes_len (parts r) []
        have h2 := parts_len r
        have h3 : (joinT []).length = 0 := rfl
        unfold joinL
        split
        · simp
        · simp only [List.length_cons]
          omega
      · cases h
theorem split_joinL (ns : List (List UInt8)) (h : ns.all nameB = true) (hl : ns.length ≤ 8) (hj : (joinL ns).length ≤ 96) : split (joinL ns) = (ns, 0) := by
  cases ns with
  | nil => decide
  | cons p ps =>
    have h0 := h
    simp only [List.all_cons, Bool.and_eq_true] at h
    have e : joinL (p :: ps) = 47 :: (p ++ joinT ps) := by simp [joinL, joinT]
    rw [e] at hj ⊢
    unfold split
    rw [if_neg (by omega)]
    simp only [if_true]
    rw [parts_joinT ps p (name_parts h.1).1 h.2, goes_all _ _ h0 (by simpa using hl)]
    simp
theorem joinE_split (s : List UInt8) (h : (split s).2 = 0) : joinE (split s).1 = 0 := by
  have h1 := split_good s
  have h2 := split_len s h
  unfold joinE
  rw [if_neg (by omega), if_neg (by rw [h1.1]; simp), if_neg (by omega)]
theorem joinS_split (s : List UInt8) (h : (split s).2 = 0) : joinS (split s).1 = joinL (split s).1 := by
  unfold joinS
  rw [if_pos (joinE_split s h)]
theorem split_zero (s : List UInt8) (h : (split s).2 ≠ 0) : (split s).1 = [] := by
  have hg : ∀ ps ns, (goes ns ps).2 ≠ 0 → (goes ns ps).1 = [] := by
    intro ps
    induction ps with
    | nil => intro ns h; exact absurd rfl h
    | cons p ps ih =>
      intro ns h
      unfold goes at h ⊢
      split at h
      · rw [if_pos ‹_›]; exact ih _ h
      · rw [if_neg ‹_›]
        split at h
        · rw [if_pos ‹_›]; exact ih _ h
        · rw [if_neg ‹_›]
          split at h
          · rw [if_pos ‹_›]
          · rw [if_neg ‹_›]
            split at h
            · rw [if_pos ‹_›]
            · rw [if_neg ‹_›]; exact ih _ h
  unfold split at h ⊢
  split
  · rfl
  · rename_i hl
    rw [if_neg hl] at h
    split
    · rfl
    · rename_i c r
      split
      · rename_i hc
        simp only [hc, if_true] at h
        exact hg _ _ h
      · rfl
/-- What is above, a /, and the last name. -/
theorem split_up (s : List UInt8) (h : (split s).2 = 0) (hn : (split s).1 ≠ []) : split (joinL (split s).1.dropLast ++ (47 :: (split s).1.getLast hn)) = ((split s).1, 0) := by
  have h1 := split_good s
  have h2 := (split_len s h).1
  have h3 := (split_len s h).2
  generalize (split s).1 = ns at *
  rcases List.eq_nil_or_concat ns with rfl | ⟨l, x, rfl⟩
  · exact absurd rfl hn
  · simp only [List.concat_eq_append] at *
    rw [List.dropLast_concat, List.getLast_concat]
    cases l with
    | nil =>
      simp only [List.nil_append, List.all_cons, List.all_nil, Bool.and_true] at h1
      obtain ⟨a, b, c, d, e⟩ := name_parts h1.1
      simp only [joinL, if_true, List.nil_append]
      unfold split
      rw [if_neg (by simp; omega)]
      simp only [List.cons_append, List.nil_append, if_true]
      have e1 : parts (47 :: x) = [] :: parts x := by simp [parts]
      rw [e1, parts_none a]
      have e2 : goes [] [[], x] = goes [] [x] := by simp [goes]
      rw [e2, goes_name h1.1 (by simp)]
      simp [goes]
    | cons p ps =>
      have e : joinL (p :: ps) ++ 47 :: x = joinL (p :: ps ++ [x]) := by simp [joinL, joinT]
      rw [e]
      exact split_joinL _ h1.1 h1.2 (by omega)
def withinB (a b : List (List UInt8)) : Bool := decide (b.length < a.length) && (a.take b.length == b)
theorem within_not (a b : List (List UInt8)) : withinB a b = false ∨ withinB b a = false := by
  unfold withinB
  by_cases h : b.length < a.length
  · right
    simp
    intro h'
    omega
  · left
    simp [h]
theorem within_up (ns : List (List UInt8)) (h : ns ≠ []) : withinB ns ns.dropLast = true := by
  rcases List.eq_nil_or_concat ns with rfl | ⟨l, x, rfl⟩
  · exact absurd rfl h
  · simp [withinB]
/-- strings.Join's text behind a /. -/
theorem join_eq (ns : List (List UInt8)) : 47 :: Lib.join ns [47] = joinL ns := by
  cases ns with
  | nil => rfl
  | cons p ps =>
    rw [Lib.join_cons]
    simp [joinL, joinT, Lib.joinTail, List.flatMap]
end Go.Proofs.Ytkkfndilgoamkaa
