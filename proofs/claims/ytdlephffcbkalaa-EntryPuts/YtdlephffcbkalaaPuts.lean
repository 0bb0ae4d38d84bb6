/- Words for EntryPuts: entries copied, one stored in their midst. -/
import Derived.Test.YtdlephffcbkalaaAwake
import Derived.Test.YtdlephffcbkalaaMathB
import Derived.Test.YtdlephffcbkalaaRefN
namespace Go.Proofs.Ytdlephffcbkalaa
open Go.RowKit
set_option linter.unusedVariables false

theorem flat_take (l : List Rw) : ∀ j, (l.flatMap rc).take (j * 2) = (l.take j).flatMap rc := by
  induction l with
  | nil => intro j; simp
  | cons r l ih =>
    intro j
    cases j with
    | zero => simp
    | succ j =>
      rw [List.flatMap_cons, List.take_succ_cons, List.flatMap_cons, ← ih j, show (j + 1) * 2 = (rc r).length + j * 2 by rw [rc_len]; omega, List.take_length_add_append]
theorem flat_drop (l : List Rw) : ∀ j, (l.flatMap rc).drop (j * 2) = (l.drop j).flatMap rc := by
  induction l with
  | nil => intro j; simp
  | cons r l ih =>
    intro j
    cases j with
    | zero => simp
    | succ j =>
      rw [List.flatMap_cons, List.drop_succ_cons, ← ih j, show (j + 1) * 2 = (rc r).length + j * 2 by rw [rc_len]; omega, List.drop_length_add_append]
theorem flat_len (l : List Rw) : (l.flatMap rc).length = l.length * 2 := by
  induction l with
  | nil => rfl
  | cons r l ih => rw [List.flatMap_cons, List.length_append, ih, rc_len, List.length_cons]; omega
theorem flat_set {l : List Rw} {j : Nat} (hj : j < l.length) (r : Rw) : (l.set j r).flatMap rc = (l.flatMap rc).take (j * 2) ++ rc r ++ (l.flatMap rc).drop ((j + 1) * 2) := by
  rw [flat_take, flat_drop, List.set_eq_take_append_cons_drop, if_pos hj, List.flatMap_append, List.flatMap_cons, List.append_assoc]
theorem own_slice {w : World} {base m cap : Nat} {A : Option Addr} {l : List Rw} (h : OwnR w base (.slice A m cap) l) (h0 : 0 < l.length) : ∃ g, A = some ⟨g, 0, none⟩ ∧ base ≤ g ∧ g < w.heap.size := by
  rcases h.2 with ⟨e, hz⟩ | ⟨g', cap', cur, e, hg, hh, _⟩
  · omega
  · injection e with e1 e2 e3
    exact ⟨g', e1, hg, (Array.getElem?_eq_some_iff.1 hh).1⟩
/-- One of them stored anew. -/
theorem own_setR {w : World} {base g m cap : Nat} {l : List Rw} (h : OwnR w base (.slice (some ⟨g, 0, none⟩) m cap) l) {j : Nat} (hj : j < l.length) (r : Rw) :
    w.there g (j * 2) 2 ∧ OwnR (w.setCells g (j * 2) (rc r)) base (.slice (some ⟨g, 0, none⟩) m cap) (l.set j r) := by
  rcases h.2 with ⟨e, _⟩ | ⟨g', cap', cur, e, hg, hh, hn, hm, hs, ht⟩
  · cases e
  · injection e with e1 e2 e3
    injection e1 with e1
    injection e1 with e1
    subst e1 e2 e3
    have hle : l.length * 2 ≤ cur.size := by omega
    have hC : w.heap[g]? = some (.cells cur.toList.toArray 23 (0, 0)) := by simpa using hh
    refine ⟨fun i hi => ⟨?_, free_in hh _⟩, ?_⟩
    · rw [cell_in hh, Array.getElem?_eq_getElem (by omega)]
      rfl
    · have h1 := heap_mid (rc r) (j * 2) hC (by rw [rc_len]; simp; omega)
      refine ⟨?_, .inr ⟨g, cap, _, by rw [List.length_set], hg, h1, by rw [List.length_set]; exact hn, hm, ?_, ?_⟩⟩
      · rw [flat_len, List.length_set]
      · simp [rc_len]
        omega
      · rw [flat_set hj, ← ht, List.length_set]
        simp only [List.append_assoc]
        rw [List.take_append, List.take_append, List.take_take, List.take_take, List.length_take, rc_len]
        have e1 : min (l.length * 2) (j * 2) = j * 2 := by omega
        have e2 : min (j * 2) (l.length * 2) = j * 2 := by omega
        have e3 : min (j * 2) cur.toList.length = j * 2 := by simp; omega
        rw [e1, e2, e3, List.take_of_length_le (l := rc r) (by rw [rc_len]; omega)]
        congr 2
        rw [show j * 2 + 2 = (j + 1) * 2 by omega, show l.length * 2 - j * 2 - 2 = l.length * 2 - (j + 1) * 2 by omega, List.drop_take]
/-- append([]Row{}, l...). -/
theorem appR2_run {w : World} {base B m c g : Nat} {A : Option Addr} {l : List Rw} (hg : w.heap[g]? = some (.cells #[] 23 (0, 0))) (hbg : base ≤ g) (h : Rws w B A m c l) (hA : A = none → c = 0) (hk : l.length ≤ 5000000000000) (hbase : base ≤ w.heap.size) :
    ∃ v' w', (Builtin.append_ #[35, 35] 35 #[.slice (some ⟨g, 0, none⟩) 0 0, .slice A m c]).run Try.prog w = .ok v' w' ∧ OwnR w' base v' l ∧ w.grownBy w' (some g) := by
  obtain ⟨i0, hi, hz0, hz1, hz2⟩ := info_parts Try.info23
  obtain rfl := h.len
  have hown : OwnR w base (.slice (some ⟨g, 0, none⟩) 0 0) [] := ⟨rfl, .inr ⟨g, 0, #[], rfl, hbg, hg, Nat.le_refl _, by decide, rfl, rfl⟩⟩
  rcases A with _ | ad
  · have hc := hA rfl
    subst hc
    have h0 : l = [] := List.length_eq_zero_iff.1 (by have := h.cap; omega)
    subst h0
    refine ⟨_, w, ?_, hown, ⟨rfl, rfl, rfl, Nat.le_refl _, fun _ _ _ => rfl⟩⟩
    simp [Builtin.append_, run_underlying Try.underlying35, sizeOf, typeInfo, hi, Builtin.lenOf, Builtin.firstCells, storeCells]
  · obtain ⟨v', w', hr, h2, h3, _⟩ := run_append_own (P := Try.prog) w base 35 35 23 i0 _ 2 24 Try.underlying35 hi hz0 hz1 hz2 rfl (by decide) (.slice (some ⟨g, 0, none⟩) 0 0) 0 [] hown ad l.length c (l.flatMap rc) (flat_len l)
      (fun j u hu => by
        have hj : j < l.length * 2 := by
          have := (List.getElem?_eq_some_iff.1 hu).1
          rwa [flat_len] at this
        obtain ⟨b, off, e, hb, hcell⟩ := h.at_ (by omega)
        cases e
        have hr : l[j / 2]? = some (l[j / 2]'(by omega)) := List.getElem?_eq_getElem _
        obtain ⟨c0, c1⟩ := hcell (j / 2) _ hr
        have hf := flat_get (fun x _ => rc_len x) hr (j := j % 2) (by omega)
        rw [show j / 2 * 2 + j % 2 = j by omega, hu] at hf
        rw [Addr.add_lit]
        rcases Nat.mod_two_eq_zero_or_one j with h2 | h2
        · rw [h2] at hf
          rw [show off + j = off + j / 2 * 2 by omega, c0]
          exact hf.symm
        · rw [h2] at hf
          rw [show off + j = off + j / 2 * 2 + 1 by omega, c1]
          exact hf.symm) (fun u hu => by
        obtain ⟨r, _, hr⟩ := List.mem_flatMap.1 hu
        exact rc_one r u hr) (by unfold maxLen; omega) (by omega) hbase
    refine ⟨v', w', hr, ?_, h3⟩
    unfold OwnR
    simpa using h2
theorem srt_pair {l : List (List UInt8)} (h : l.Nodup) {k : Nat} (h1 : 1 ≤ k) (h2 : k < (srt l).length) : ¬ ((srt l)[k]?.getD []) ≤ ((srt l)[k - 1]?.getD []) := by
  rw [List.getElem?_eq_getElem h2, List.getElem?_eq_getElem (by omega)]
  exact srt_strict h (k - 1) k (by omega) h2 (by omega)
end Go.Proofs.Ytdlephffcbkalaa
