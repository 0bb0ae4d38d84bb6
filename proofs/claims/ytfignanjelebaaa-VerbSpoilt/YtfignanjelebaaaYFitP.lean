/- package verb: fits, kind by kind. (Written by program.) -/
import Derived.Test.YtfignanjelebaaaYFit
import Derived.Laws.EntriesVeiled
namespace Go.Proofs.Ytfignanjelebaaa
open Go.RowKit
set_option linter.unusedVariables false
theorem fit_1 {v : Vb} {n : Nat} (hn : v.d.length = n) (hk : v.k = 1) : decide v.fit = (true && decide (Vb.bare v n)) := by
  obtain ⟨k, st, lf, sq, ep, nd, gn, a, sz, md, p, o, d⟩ := v
  simp only at hk hn
  subst hk hn
  rw [Bool.eq_iff_iff]
  have m112 : (((112 : UInt8) ∈ hs 1) = False) := eq_false (by decide)
  have m111 : (((111 : UInt8) ∈ hs 1) = False) := eq_false (by decide)
  have m104 : (((104 : UInt8) ∈ hs 1) = False) := eq_false (by decide)
  have m97 : (((97 : UInt8) ∈ hs 1) = False) := eq_false (by decide)
  have m115 : (((115 : UInt8) ∈ hs 1) = False) := eq_false (by decide)
  have m109 : (((109 : UInt8) ∈ hs 1) = False) := eq_false (by decide)
  have m100 : (((100 : UInt8) ∈ hs 1) = False) := eq_false (by decide)
  have m0 : (hs 1 ≠ []) = True := eq_true (by decide)
  unfold Vb.fit Vb.mid Vb.own Vb.kind Vb.bare
  simp only [num]
  simp only [m0]
  simp only [m112, m111, m104, m97, m115, m109, m100]
  simp only [← List.length_eq_zero_iff]
  simp only [Bool.and_eq_true, decide_eq_true_eq]
  try simp only [wthn]
  try simp only [List.length_nil]
  try simp only [true_or]
  try simp only [false_or]
  try simp only [or_true]
  try simp only [true_and]
  try simp only [and_true]
  try simp only [forall_const]
  omega
theorem fit_2 {v : Vb} {n : Nat} (hn : v.d.length = n) (hk : v.k = 2) : decide v.fit = ((true && decide (v.p.length ≤ 255)) && decide (Vb.bare { v with p := [] } n)) := by
  obtain ⟨k, st, lf, sq, ep, nd, gn, a, sz, md, p, o, d⟩ := v
  simp only at hk hn
  subst hk hn
  rw [Bool.eq_iff_iff]
  have m112 : (((112 : UInt8) ∈ hs 2) = True) := eq_true (by decide)
  have m111 : (((111 : UInt8) ∈ hs 2) = False) := eq_false (by decide)
  have m104 : (((104 : UInt8) ∈ hs 2) = False) := eq_false (by decide)
  have m97 : (((97 : UInt8) ∈ hs 2) = False) := eq_false (by decide)
  have m115 : (((115 : UInt8) ∈ hs 2) = False) := eq_false (by decide)
  have m109 : (((109 : UInt8) ∈ hs 2) = False) := eq_false (by decide)
  have m100 : (((100 : UInt8) ∈ hs 2) = False) := eq_false (by decide)
  have m0 : (hs 2 ≠ []) = True := eq_true (by decide)
  unfold Vb.fit Vb.mid Vb.own Vb.kind Vb.bare
  simp only [num]
  simp only [m0]
  simp only [m112, m111, m104, m97, m115, m109, m100]
  simp only [← List.length_eq_zero_iff]
  simp only [Bool.and_eq_true, decide_eq_true_eq]
  try simp only [wthn]
  try simp only [List.length_nil]
  try simp only [true_or]
  try simp only [false_or]
  try simp only [or_true]
  try simp only [true_and]
  try simp only [and_true]
  try simp only [forall_const]
  omega
theorem fit_3 {v : Vb} {n : Nat} (hn : v.d.length = n) (hk : v.k = 3) : decide v.fit = ((true && decide (v.p.length ≤ 255)) && decide (Vb.bare { v with p := [] } n)) := by
  obtain ⟨k, st, lf, sq, ep, nd, gn, a, sz, md, p, o, d⟩ := v
  simp only at hk hn
  subst hk hn
  rw [Bool.eq_iff_iff]
  have m112 : (((112 : UInt8) ∈ hs 3) = True) := eq_true (by decide)
  have m111 : (((111 : UInt8) ∈ hs 3) = False) := eq_false (by decide)
  have m104 : (((104 : UInt8) ∈ hs 3) = False) := eq_false (by decide)
  have m97 : (((97 : UInt8) ∈ hs 3) = False) := eq_false (by decide)
  have m115 : (((115 : UInt8) ∈ hs 3) = False) := eq_false (by decide)
  have m109 : (((109 : UInt8) ∈ hs 3) = False) := eq_false (by decide)
  have m100 : (((100 : UInt8) ∈ hs 3) = False) := eq_false (by decide)
  have m0 : (hs 3 ≠ []) = True := eq_true (by decide)
  unfold Vb.fit Vb.mid Vb.own Vb.kind Vb.bare
  simp only [num]
  simp only [m0]
  simp only [m112, m111, m104, m97, m115, m109, m100]
  simp only [← List.length_eq_zero_iff]
  simp only [Bool.and_eq_true, decide_eq_true_eq]
  try simp only [wthn]
  try simp only [List.length_nil]
  try simp only [true_or]
  try simp only [false_or]
  try simp only [or_true]
  try simp only [true_and]
  try simp only [and_true]
  try simp only [forall_const]
  omega
theorem fit_4 {v : Vb} {n : Nat} (hn : v.d.length = n) (hk : v.k = 4) : decide v.fit = ((true && decide (v.p.length ≤ 255)) && decide (Vb.bare { v with p := [] } n)) := by
  obtain ⟨k, st, lf, sq, ep, nd, gn, a, sz, md, p, o, d⟩ := v
  simp only at hk hn
  subst hk hn
  rw [Bool.eq_iff_iff]
  have m112 : (((112 : UInt8) ∈ hs 4) = True) := eq_true (by decide)
  have m111 : (((111 : UInt8) ∈ hs 4) = False) := eq_false (by decide)
  have m104 : (((104 : UInt8) ∈ hs 4) = False) := eq_false (by decide)
  have m97 : (((97 : UInt8) ∈ hs 4) = False) := eq_false (by decide)
  have m115 : (((115 : UInt8) ∈ hs 4) = False) := eq_false (by decide)
  have m109 : (((109 : UInt8) ∈ hs 4) = False) := eq_false (by decide)
  have m100 : (((100 : UInt8) ∈ hs 4) = False) := eq_false (by decide)
  have m0 : (hs 4 ≠ []) = True := eq_true (by decide)
  unfold Vb.fit Vb.mid Vb.own Vb.kind Vb.bare
  simp only [num]
  simp only [m0]
  simp only [m112, m111, m104, m97, m115, m109, m100]
  simp only [← List.length_eq_zero_iff]
  simp only [Bool.and_eq_true, decide_eq_true_eq]
  try simp only [wthn]
  try simp only [List.length_nil]
  try simp only [true_or]
  try simp only [false_or]
  try simp only [or_true]
  try simp only [true_and]
  try simp only [and_true]
  try simp only [forall_const]
  omega
theorem fit_5 {v : Vb} {n : Nat} (hn : v.d.length = n) (hk : v.k = 5) : decide v.fit = (((true && decide (v.p.length ≤ 255)) && decide (v.o.length ≤ 255)) && decide (Vb.bare { v with p := [], o := [] } n)) := by
  obtain ⟨k, st, lf, sq, ep, nd, gn, a, sz, md, p, o, d⟩ := v
  simp only at hk hn
  subst hk hn
  rw [Bool.eq_iff_iff]
  have m112 : (((112 : UInt8) ∈ hs 5) = True) := eq_true (by decide)
  have m111 : (((111 : UInt8) ∈ hs 5) = True) := eq_true (by decide)
  have m104 : (((104 : UInt8) ∈ hs 5) = False) := eq_false (by decide)
  have m97 : (((97 : UInt8) ∈ hs 5) = False) := eq_false (by decide)
  have m115 : (((115 : UInt8) ∈ hs 5) = False) := eq_false (by decide)
  have m109 : (((109 : UInt8) ∈ hs 5) = False) := eq_false (by decide)
  have m100 : (((100 : UInt8) ∈ hs 5) = False) := eq_false (by decide)
  have m0 : (hs 5 ≠ []) = True := eq_true (by decide)
  unfold Vb.fit Vb.mid Vb.own Vb.kind Vb.bare
  simp only [num]
  simp only [m0]
  simp only [m112, m111, m104, m97, m115, m109, m100]
  simp only [← List.length_eq_zero_iff]
  simp only [Bool.and_eq_true, decide_eq_true_eq]
  try simp only [wthn]
  try simp only [List.length_nil]
  try simp only [true_or]
  try simp only [false_or]
  try simp only [or_true]
  try simp only [true_and]
  try simp only [and_true]
  try simp only [forall_const]
  omega
theorem fit_6 {v : Vb} {n : Nat} (hn : v.d.length = n) (hk : v.k = 6) : decide v.fit = ((true && decide (v.p.length ≤ 255)) && decide (Vb.bare { v with p := [] } n)) := by
  obtain ⟨k, st, lf, sq, ep, nd, gn, a, sz, md, p, o, d⟩ := v
  simp only at hk hn
  subst hk hn
  rw [Bool.eq_iff_iff]
  have m112 : (((112 : UInt8) ∈ hs 6) = True) := eq_true (by decide)
  have m111 : (((111 : UInt8) ∈ hs 6) = False) := eq_false (by decide)
  have m104 : (((104 : UInt8) ∈ hs 6) = False) := eq_false (by decide)
  have m97 : (((97 : UInt8) ∈ hs 6) = False) := eq_false (by decide)
  have m115 : (((115 : UInt8) ∈ hs 6) = False) := eq_false (by decide)
  have m109 : (((109 : UInt8) ∈ hs 6) = False) := eq_false (by decide)
  have m100 : (((100 : UInt8) ∈ hs 6) = False) := eq_false (by decide)
  have m0 : (hs 6 ≠ []) = True := eq_true (by decide)
  unfold Vb.fit Vb.mid Vb.own Vb.kind Vb.bare
  simp only [num]
  simp only [m0]
  simp only [m112, m111, m104, m97, m115, m109, m100]
  simp only [← List.length_eq_zero_iff]
  simp only [Bool.and_eq_true, decide_eq_true_eq]
  try simp only [wthn]
  try simp only [List.length_nil]
  try simp only [true_or]
  try simp only [false_or]
  try simp only [or_true]
  try simp only [true_and]
  try simp only [and_true]
  try simp only [forall_const]
  omega
theorem fit_7 {v : Vb} {n : Nat} (hn : v.d.length = n) (hk : v.k = 7) : decide v.fit = ((true && decide (v.p.length ≤ 255)) && decide (Vb.bare { v with p := [] } n)) := by
  obtain ⟨k, st, lf, sq, ep, nd, gn, a, sz, md, p, o, d⟩ := v
  simp only at hk hn
  subst hk hn
  rw [Bool.eq_iff_iff]
  have m112 : (((112 : UInt8) ∈ hs 7) = True) := eq_true (by decide)
  have m111 : (((111 : UInt8) ∈ hs 7) = False) := eq_false (by decide)
  have m104 : (((104 : UInt8) ∈ hs 7) = False) := eq_false (by decide)
  have m97 : (((97 : UInt8) ∈ hs 7) = False) := eq_false (by decide)
  have m115 : (((115 : UInt8) ∈ hs 7) = False) := eq_false (by decide)
  have m109 : (((109 : UInt8) ∈ hs 7) = False) := eq_false (by decide)
  have m100 : (((100 : UInt8) ∈ hs 7) = False) := eq_false (by decide)
  have m0 : (hs 7 ≠ []) = True := eq_true (by decide)
  unfold Vb.fit Vb.mid Vb.own Vb.kind Vb.bare
  simp only [num]
  simp only [m0]
  simp only [m112, m111, m104, m97, m115, m109, m100]
  simp only [← List.length_eq_zero_iff]
  simp only [Bool.and_eq_true, decide_eq_true_eq]
  try simp only [wthn]
  try simp only [List.length_nil]
  try simp only [true_or]
  try simp only [false_or]
  try simp only [or_true]
  try simp only [true_and]
  try simp only [and_true]
  try simp only [forall_const]
  omega
theorem fit_8 {v : Vb} {n : Nat} (hn : v.d.length = n) (hk : v.k = 8) : decide v.fit = (((true && decide (v.p.length ≤ 255)) && decide (v.o.length ≤ 255)) && decide (Vb.bare { v with p := [], o := [] } n)) := by
  obtain ⟨k, st, lf, sq, ep, nd, gn, a, sz, md, p, o, d⟩ := v
  simp only at hk hn
  subst hk hn
  rw [Bool.eq_iff_iff]
  have m112 : (((112 : UInt8) ∈ hs 8) = True) := eq_true (by decide)
  have m111 : (((111 : UInt8) ∈ hs 8) = True) := eq_true (by decide)
  have m104 : (((104 : UInt8) ∈ hs 8) = False) := eq_false (by decide)
  have m97 : (((97 : UInt8) ∈ hs 8) = False) := eq_false (by decide)
  have m115 : (((115 : UInt8) ∈ hs 8) = False) := eq_false (by decide)
  have m109 : (((109 : UInt8) ∈ hs 8) = False) := eq_false (by decide)
  have m100 : (((100 : UInt8) ∈ hs 8) = False) := eq_false (by decide)
  have m0 : (hs 8 ≠ []) = True := eq_true (by decide)
  unfold Vb.fit Vb.mid Vb.own Vb.kind Vb.bare
  simp only [num]
  simp only [m0]
  simp only [m112, m111, m104, m97, m115, m109, m100]
  simp only [← List.length_eq_zero_iff]
  simp only [Bool.and_eq_true, decide_eq_true_eq]
  try simp only [wthn]
  try simp only [List.length_nil]
  try simp only [true_or]
  try simp only [false_or]
  try simp only [or_true]
  try simp only [true_and]
  try simp only [and_true]
  try simp only [forall_const]
  omega
theorem fit_9 {v : Vb} {n : Nat} (hn : v.d.length = n) (hk : v.k = 9) : decide v.fit = ((true && decide (v.p.length ≤ 255)) && decide (Vb.bare { v with p := [] } n)) := by
  obtain ⟨k, st, lf, sq, ep, nd, gn, a, sz, md, p, o, d⟩ := v
  simp only at hk hn
  subst hk hn
  rw [Bool.eq_iff_iff]
  have m112 : (((112 : UInt8) ∈ hs 9) = True) := eq_true (by decide)
  have m111 : (((111 : UInt8) ∈ hs 9) = False) := eq_false (by decide)
  have m104 : (((104 : UInt8) ∈ hs 9) = False) := eq_false (by decide)
  have m97 : (((97 : UInt8) ∈ hs 9) = False) := eq_false (by decide)
  have m115 : (((115 : UInt8) ∈ hs 9) = False) := eq_false (by decide)
  have m109 : (((109 : UInt8) ∈ hs 9) = False) := eq_false (by decide)
  have m100 : (((100 : UInt8) ∈ hs 9) = False) := eq_false (by decide)
  have m0 : (hs 9 ≠ []) = True := eq_true (by decide)
  unfold Vb.fit Vb.mid Vb.own Vb.kind Vb.bare
  simp only [num]
  simp only [m0]
  simp only [m112, m111, m104, m97, m115, m109, m100]
  simp only [← List.length_eq_zero_iff]
  simp only [Bool.and_eq_true, decide_eq_true_eq]
  try simp only [wthn]
  try simp only [List.length_nil]
  try simp only [true_or]
  try simp only [false_or]
  try simp only [or_true]
  try simp only [true_and]
  try simp only [and_true]
  try simp only [forall_const]
  omega
theorem fit_10 {v : Vb} {n : Nat} (hn : v.d.length = n) (hk : v.k = 10) : decide v.fit = (((((true && decide (wthn v.nd 0 1073741824)) && decide (wthn v.gn 0 1073741824)) && decide (wthn v.a 0 1073741824)) && decide (wthn v.sz 1 256)) && decide (Vb.bare { v with nd := 0, gn := 0, a := 0, sz := 0 } n)) := by
  obtain ⟨k, st, lf, sq, ep, nd, gn, a, sz, md, p, o, d⟩ := v
  simp only at hk hn
  subst hk hn
  rw [Bool.eq_iff_iff]
  have m112 : (((112 : UInt8) ∈ hs 10) = False) := eq_false (by decide)
  have m111 : (((111 : UInt8) ∈ hs 10) = False) := eq_false (by decide)
  have m104 : (((104 : UInt8) ∈ hs 10) = True) := eq_true (by decide)
  have m97 : (((97 : UInt8) ∈ hs 10) = True) := eq_true (by decide)
  have m115 : (((115 : UInt8) ∈ hs 10) = True) := eq_true (by decide)
  have m109 : (((109 : UInt8) ∈ hs 10) = False) := eq_false (by decide)
  have m100 : (((100 : UInt8) ∈ hs 10) = False) := eq_false (by decide)
  have m0 : (hs 10 ≠ []) = True := eq_true (by decide)
  unfold Vb.fit Vb.mid Vb.own Vb.kind Vb.bare
  simp only [num]
  simp only [m0]
  simp only [m112, m111, m104, m97, m115, m109, m100]
  simp only [← List.length_eq_zero_iff]
  simp only [Bool.and_eq_true, decide_eq_true_eq]
  try simp only [wthn]
  try simp only [List.length_nil]
  try simp only [true_or]
  try simp only [false_or]
  try simp only [or_true]
  try simp only [true_and]
  try simp only [and_true]
  try simp only [forall_const]
  omega
theorem fit_11 {v : Vb} {n : Nat} (hn : v.d.length = n) (hk : v.k = 11) : decide v.fit = (((((true && decide (wthn v.nd 0 1073741824)) && decide (wthn v.gn 0 1073741824)) && decide (wthn v.a 0 1073741824)) && decide (wthn (n : Int) 1 256)) && decide (Vb.bare { v with nd := 0, gn := 0, a := 0 } 0)) := by
  obtain ⟨k, st, lf, sq, ep, nd, gn, a, sz, md, p, o, d⟩ := v
  simp only at hk hn
  subst hk hn
  rw [Bool.eq_iff_iff]
  have m112 : (((112 : UInt8) ∈ hs 11) = False) := eq_false (by decide)
  have m111 : (((111 : UInt8) ∈ hs 11) = False) := eq_false (by decide)
  have m104 : (((104 : UInt8) ∈ hs 11) = True) := eq_true (by decide)
  have m97 : (((97 : UInt8) ∈ hs 11) = True) := eq_true (by decide)
  have m115 : (((115 : UInt8) ∈ hs 11) = False) := eq_false (by decide)
  have m109 : (((109 : UInt8) ∈ hs 11) = False) := eq_false (by decide)
  have m100 : (((100 : UInt8) ∈ hs 11) = True) := eq_true (by decide)
  have m0 : (hs 11 ≠ []) = True := eq_true (by decide)
  unfold Vb.fit Vb.mid Vb.own Vb.kind Vb.bare
  simp only [num]
  simp only [m0]
  simp only [m112, m111, m104, m97, m115, m109, m100]
  simp only [← List.length_eq_zero_iff]
  simp only [Bool.and_eq_true, decide_eq_true_eq]
  try simp only [wthn]
  try simp only [List.length_nil]
  try simp only [true_or]
  try simp only [false_or]
  try simp only [or_true]
  try simp only [true_and]
  try simp only [and_true]
  try simp only [forall_const]
  omega
theorem fit_12 {v : Vb} {n : Nat} (hn : v.d.length = n) (hk : v.k = 12) : decide v.fit = ((((true && decide (wthn v.nd 0 1073741824)) && decide (wthn v.gn 0 1073741824)) && decide (wthn v.sz 0 1073741824)) && decide (Vb.bare { v with nd := 0, gn := 0, sz := 0 } n)) := by
  obtain ⟨k, st, lf, sq, ep, nd, gn, a, sz, md, p, o, d⟩ := v
  simp only at hk hn
  subst hk hn
  rw [Bool.eq_iff_iff]
  have m112 : (((112 : UInt8) ∈ hs 12) = False) := eq_false (by decide)
  have m111 : (((111 : UInt8) ∈ hs 12) = False) := eq_false (by decide)
  have m104 : (((104 : UInt8) ∈ hs 12) = True) := eq_true (by decide)
  have m97 : (((97 : UInt8) ∈ hs 12) = False) := eq_false (by decide)
  have m115 : (((115 : UInt8) ∈ hs 12) = True) := eq_true (by decide)
  have m109 : (((109 : UInt8) ∈ hs 12) = False) := eq_false (by decide)
  have m100 : (((100 : UInt8) ∈ hs 12) = False) := eq_false (by decide)
  have m0 : (hs 12 ≠ []) = True := eq_true (by decide)
  unfold Vb.fit Vb.mid Vb.own Vb.kind Vb.bare
  simp only [num]
  simp only [m0]
  simp only [m112, m111, m104, m97, m115, m109, m100]
  simp only [← List.length_eq_zero_iff]
  simp only [Bool.and_eq_true, decide_eq_true_eq]
  try simp only [wthn]
  try simp only [List.length_nil]
  try simp only [true_or]
  try simp only [false_or]
  try simp only [or_true]
  try simp only [true_and]
  try simp only [and_true]
  try simp only [forall_const]
  omega
theorem fit_13 {v : Vb} {n : Nat} (hn : v.d.length = n) (hk : v.k = 13) : decide v.fit = ((((true && decide (wthn v.nd 0 1073741824)) && decide (wthn v.gn 0 1073741824)) && decide (wthn v.md 1 2)) && decide (Vb.bare { v with nd := 0, gn := 0, md := 0 } n)) := by
  obtain ⟨k, st, lf, sq, ep, nd, gn, a, sz, md, p, o, d⟩ := v
  simp only at hk hn
  subst hk hn
  rw [Bool.eq_iff_iff]
  have m112 : (((112 : UInt8) ∈ hs 13) = False) := eq_false (by decide)
  have m111 : (((111 : UInt8) ∈ hs 13) = False) := eq_false (by decide)
  have m104 : (((104 : UInt8) ∈ hs 13) = True) := eq_true (by decide)
  have m97 : (((97 : UInt8) ∈ hs 13) = False) := eq_false (by decide)
  have m115 : (((115 : UInt8) ∈ hs 13) = False) := eq_false (by decide)
  have m109 : (((109 : UInt8) ∈ hs 13) = True) := eq_true (by decide)
  have m100 : (((100 : UInt8) ∈ hs 13) = False) := eq_false (by decide)
  have m0 : (hs 13 ≠ []) = True := eq_true (by decide)
  unfold Vb.fit Vb.mid Vb.own Vb.kind Vb.bare
  simp only [num]
  simp only [m0]
  simp only [m112, m111, m104, m97, m115, m109, m100]
  simp only [← List.length_eq_zero_iff]
  simp only [Bool.and_eq_true, decide_eq_true_eq]
  try simp only [wthn]
  try simp only [List.length_nil]
  try simp only [true_or]
  try simp only [false_or]
  try simp only [or_true]
  try simp only [true_and]
  try simp only [and_true]
  try simp only [forall_const]
  omega
theorem fit_14 {v : Vb} {n : Nat} (hn : v.d.length = n) (hk : v.k = 14) : decide v.fit = (((true && decide (wthn v.nd 0 1073741824)) && decide (wthn v.gn 0 1073741824)) && decide (Vb.bare { v with nd := 0, gn := 0 } n)) := by
  obtain ⟨k, st, lf, sq, ep, nd, gn, a, sz, md, p, o, d⟩ := v
  simp only at hk hn
  subst hk hn
  rw [Bool.eq_iff_iff]
  have m112 : (((112 : UInt8) ∈ hs 14) = False) := eq_false (by decide)
  have m111 : (((111 : UInt8) ∈ hs 14) = False) := eq_false (by decide)
  have m104 : (((104 : UInt8) ∈ hs 14) = True) := eq_true (by decide)
  have m97 : (((97 : UInt8) ∈ hs 14) = False) := eq_false (by decide)
  have m115 : (((115 : UInt8) ∈ hs 14) = False) := eq_false (by decide)
  have m109 : (((109 : UInt8) ∈ hs 14) = False) := eq_false (by decide)
  have m100 : (((100 : UInt8) ∈ hs 14) = False) := eq_false (by decide)
  have m0 : (hs 14 ≠ []) = True := eq_true (by decide)
  unfold Vb.fit Vb.mid Vb.own Vb.kind Vb.bare
  simp only [num]
  simp only [m0]
  simp only [m112, m111, m104, m97, m115, m109, m100]
  simp only [← List.length_eq_zero_iff]
  simp only [Bool.and_eq_true, decide_eq_true_eq]
  try simp only [wthn]
  try simp only [List.length_nil]
  try simp only [true_or]
  try simp only [false_or]
  try simp only [or_true]
  try simp only [true_and]
  try simp only [and_true]
  try simp only [forall_const]
  omega
theorem fit_15 {v : Vb} {n : Nat} (hn : v.d.length = n) (hk : v.k = 15) : decide v.fit = ((((true && decide (wthn v.nd 0 1073741824)) && decide (wthn v.gn 0 1073741824)) && decide (wthn v.md 1 2)) && decide (Vb.bare { v with nd := 0, gn := 0, md := 0 } n)) := by
  obtain ⟨k, st, lf, sq, ep, nd, gn, a, sz, md, p, o, d⟩ := v
  simp only at hk hn
  subst hk hn
  rw [Bool.eq_iff_iff]
  have m112 : (((112 : UInt8) ∈ hs 15) = False) := eq_false (by decide)
  have m111 : (((111 : UInt8) ∈ hs 15) = False) := eq_false (by decide)
  have m104 : (((104 : UInt8) ∈ hs 15) = True) := eq_true (by decide)
  have m97 : (((97 : UInt8) ∈ hs 15) = False) := eq_false (by decide)
  have m115 : (((115 : UInt8) ∈ hs 15) = False) := eq_false (by decide)
  have m109 : (((109 : UInt8) ∈ hs 15) = True) := eq_true (by decide)
  have m100 : (((100 : UInt8) ∈ hs 15) = False) := eq_false (by decide)
  have m0 : (hs 15 ≠ []) = True := eq_true (by decide)
  unfold Vb.fit Vb.mid Vb.own Vb.kind Vb.bare
  simp only [num]
  simp only [m0]
  simp only [m112, m111, m104, m97, m115, m109, m100]
  simp only [← List.length_eq_zero_iff]
  simp only [Bool.and_eq_true, decide_eq_true_eq]
  try simp only [wthn]
  try simp only [List.length_nil]
  try simp only [true_or]
  try simp only [false_or]
  try simp only [or_true]
  try simp only [true_and]
  try simp only [and_true]
  try simp only [forall_const]
  omega
end Go.Proofs.Ytfignanjelebaaa
