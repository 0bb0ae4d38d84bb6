/- Words for ref.Names: where a new text goes, and the three appends. -/
import Derived.Test.YtdlephffcbkalaaNames
import Derived.Deep.RegionHeld3
import Derived.Laws.Cover1
import Derived.Sort.Walk0
namespace Go.Proofs.Ytdlephffcbkalaa
open Go.RowKit
set_option linter.unusedVariables false

/-- Where s goes among the first k. -/
def atf (l : List (List UInt8)) (s : List UInt8) : Nat → Nat
  | 0 => 0
  | k + 1 => if (l[k]?.getD []) ≤ s then k + 1 else atf l s k
theorem atf_le (l : List (List UInt8)) (s : List UInt8) : ∀ k, atf l s k ≤ k
  | 0 => Nat.le_refl _
  | k + 1 => by
    have := atf_le l s k
    unfold atf
    split <;> omega
theorem atf_above {l : List (List UInt8)} {s : List UInt8} : ∀ {k j : Nat}, atf l s k ≤ j → j < k → ¬ (l[j]?.getD []) ≤ s
  | 0, j, _, h => by omega
  | k + 1, j, h1, h2 => by
    unfold atf at h1
    split at h1
    · omega
    · rename_i hn
      by_cases e : j = k
      · subst e; exact hn
      · exact atf_above h1 (by omega)
theorem atf_last {l : List (List UInt8)} {s : List UInt8} : ∀ {k : Nat}, 0 < atf l s k → (l[atf l s k - 1]?.getD []) ≤ s
  | 0, h => by simp [atf] at h
  | k + 1, h => by
    unfold atf at h ⊢
    split
    · rename_i hn; simpa using hn
    · rename_i hn
      rw [if_neg hn] at h
      exact atf_last h
def put (l : List (List UInt8)) (s : List UInt8) : List (List UInt8) := l.take (atf l s l.length) ++ [s] ++ l.drop (atf l s l.length)
theorem put_perm (l : List (List UInt8)) (s : List UInt8) : (put l s).Perm (l ++ [s]) := by
  unfold put
  have h : l ++ [s] = l.take (atf l s l.length) ++ (l.drop (atf l s l.length) ++ [s]) := by rw [← List.append_assoc, List.take_append_drop]
  rw [h, List.append_assoc]
  exact List.Perm.append_left _ (List.perm_append_comm)
theorem not_le {a b : List UInt8} (h : ¬ a ≤ b) : b ≤ a := (le_tot a b).resolve_left h
theorem put_sorted {l : List (List UInt8)} (hs : l.Pairwise (· ≤ ·)) (s : List UInt8) : (put l s).Pairwise (· ≤ ·) := by
  have hle := atf_le l s l.length
  have hlow : ∀ x ∈ l.take (atf l s l.length), x ≤ s := by
    intro x hx
    obtain ⟨j, hj, rfl⟩ := List.mem_take_iff_getElem.1 hx
    have h0 : 0 < atf l s l.length := by omega
    have h1 := atf_last h0
    rw [List.getElem?_eq_getElem (by omega)] at h1
    simp only [Option.getD_some] at h1
    by_cases e : j = atf l s l.length - 1
    · subst e; exact h1
    · exact List.le_trans (List.pairwise_iff_getElem.1 hs j (atf l s l.length - 1) (by omega) (by omega) (by omega)) h1
  have hhigh : ∀ x ∈ l.drop (atf l s l.length), s ≤ x := by
    intro x hx
    obtain ⟨j, hj, rfl⟩ := List.mem_drop_iff_getElem.1 hx
    have h1 := atf_above (l := l) (s := s) (k := l.length) (j := atf l s l.length + j) (by omega) (by omega)
    rw [List.getElem?_eq_getElem (by omega)] at h1
    exact not_le h1
  unfold put
  rw [List.append_assoc, List.pairwise_append]
  refine ⟨hs.sublist (List.take_sublist _ _), ?_, fun x hx y hy => ?_⟩
  · rw [List.singleton_append, List.pairwise_cons]
    exact ⟨hhigh, hs.sublist (List.drop_sublist _ _)⟩
  · rw [List.singleton_append, List.mem_cons] at hy
    rcases hy with rfl | hy
    · exact hlow x hx
    · exact List.le_trans (hlow x hx) (hhigh y hy)
theorem less_yes {a b : List UInt8} (h : a < b) : Op.bytesLess (bs a).toList (bs b).toList = true := by rw [bs_list, bs_list, bytesLess_eq]; simpa using h
theorem less_no {a b : List UInt8} (h : ¬ a < b) : Op.bytesLess (bs a).toList (bs b).toList = false := by rw [bs_list, bs_list, bytesLess_eq]; simpa using h
/-- Texts appended to a slice of the call's own. -/
theorem appS2_run {w : World} {base B m c : Nat} {v : Value} {ad : Addr} {l l' : List (List UInt8)} (hown : OwnS w base v l) (h : Strs w B (some ad) m c l') (hk : l.length + l'.length ≤ 5000000000000) (hbase : base ≤ w.heap.size) :
    ∃ v' w', (Builtin.append_ #[45, 45] 45 #[v, .slice (some ad) m c]).run Try.prog w = .ok v' w' ∧ OwnS w' base v' (l ++ l') ∧ w.grownBy w' v.ownBlock := by
  obtain ⟨i0, hi, hz0, hz1, hz2⟩ := info_parts Try.info9
  obtain rfl := h.len
  obtain ⟨v', w', hr, h2, h3, _⟩ := run_append_own (P := Try.prog) w base 45 45 9 i0 _ 1 16 Try.underlying45 hi hz0 hz1 hz2 rfl (by decide) v l.length (l.map fun s => .string (bs s)) hown ad l'.length c (l'.map fun s => .string (bs s)) (by simp)
    (fun j u hu => by
      have hj : j < l'.length := by
        have := (List.getElem?_eq_some_iff.1 hu).1
        simpa using this
      obtain ⟨b, off, e, hb, hcell⟩ := h.at_ (by omega)
      cases e
      rw [Addr.add_lit, hcell j hj, ← hu]
      simp [hj]) (fun u hu => by
      obtain ⟨s, _, rfl⟩ := List.mem_map.1 hu
      rfl) (by unfold maxLen; omega) (by omega) hbase
  refine ⟨v', w', hr, ?_, h3⟩
  unfold OwnS
  rw [List.map_append, List.length_append]
  exact h2
theorem own_none (w : World) {g base : Nat} (h : w.heap[g]? = some (.cells #[] 9 (0, 0))) (hg : base ≤ g) : OwnS w base (.slice (some ⟨g, 0, none⟩) 0 0) [] :=
  ⟨rfl, .inr ⟨g, 0, #[], rfl, hg, h, Nat.le_refl _, by decide, rfl, rfl⟩⟩
theorem strs_one (w : World) {g : Nat} {s : List UInt8} (h : w.heap[g]? = some (.cells #[.string (bs s)] 9 (0, 0))) : Strs w (g + 1) (some ⟨g, 0, none⟩) 1 1 [s] :=
  ⟨rfl, Nat.le_refl _, by decide, fun _ => ⟨g, 0, rfl, by omega, fun j hj => by
    obtain rfl : j = 0 := by omega
    exact cell_in h 0⟩⟩
theorem own_block {w : World} {base : Nat} {v : Value} {l : List (List UInt8)} (h : OwnS w base v l) : ∀ j, v.ownBlock = some j → base ≤ j ∧ j < w.heap.size := fun j hj => World.ownsRow.lt h j hj
section
variable {W : World} {s : List UInt8} {lp lq : List (List UInt8)} {ap aq : Addr} {mp cp mq cq : Nat}
/-- The three appends, where both new rows are made first. -/
theorem chain_two {W' : World} {n38 n48 : Nat} (hb : Below W.heap.size W W') (h38 : W'.heap[n38]? = some (.cells #[] 9 (0, 0))) (h48 : W'.heap[n48]? = some (.cells #[.string (bs s)] 9 (0, 0))) (g38 : W.heap.size ≤ n38) (hne : n48 ≠ n38)
    (hp : Strs W W.heap.size (some ap) mp cp lp) (hq : Strs W W.heap.size (some aq) mq cq lq) (hl : lp.length + lq.length ≤ 1000000) :
    ∃ v1 w1 v2 w2 v3 w3, (Builtin.append_ #[45, 45] 45 #[.slice (some ⟨n38, 0, none⟩) 0 0, .slice (some ap) mp cp]).run Try.prog W' = .ok v1 w1 ∧ (Builtin.append_ #[45, 45] 45 #[v1, .slice (some ⟨n48, 0, none⟩) 1 1]).run Try.prog w1 = .ok v2 w2 ∧ (Builtin.append_ #[45, 45] 45 #[v2, .slice (some aq) mq cq]).run Try.prog w2 = .ok v3 w3 ∧
      OwnS w3 W.heap.size v3 (lp ++ [s] ++ lq) ∧ Below W.heap.size W w1 ∧ Below W.heap.size W w2 ∧ Below W.heap.size W w3 := by
  obtain ⟨v1, w1, r1, o1, e1⟩ := appS2_run (own_none W' h38 g38) (hp.below hb) (by simp; omega) hb.size
  have b1 : Below W.heap.size W w1 := hb.grown e1 hb.size fun j hj => by cases hj; exact g38
  have k48 : w1.heap[n48]? = some (.cells #[.string (bs s)] 9 (0, 0)) := (e1.block n48 (Array.getElem?_eq_some_iff.1 h48).1 (by simp [Value.ownBlock]; exact hne)).trans h48
  obtain ⟨v2, w2, r2, o2, e2⟩ := appS2_run o1 (strs_one w1 k48) (by simp; omega) b1.size
  have b2 : Below W.heap.size W w2 := b1.grown e2 b1.size fun j hj => (own_block o1 j hj).1
  obtain ⟨v3, w3, r3, o3, e3⟩ := appS2_run o2 (hq.below b2) (by simp; omega) b2.size
  have b3 : Below W.heap.size W w3 := b2.grown e3 b2.size fun j hj => (own_block o2 j hj).1
  exact ⟨v1, w1, v2, w2, v3, w3, r1, r2, r3, by simpa using o3, b1, b2, b3⟩
/-- The three appends, where the second row is made behind the first of them. -/
theorem chain_one {W' : World} {n38 : Nat} (hb : Below W.heap.size W W') (h38 : W'.heap[n38]? = some (.cells #[] 9 (0, 0))) (g38 : W.heap.size ≤ n38)
    (hp : Strs W W.heap.size (some ap) mp cp lp) (hq : Strs W W.heap.size (some aq) mq cq lq) (hl : lp.length + lq.length ≤ 1000000) :
    ∃ v1 w1 v2 w2 v3 w3, (Builtin.append_ #[45, 45] 45 #[.slice (some ⟨n38, 0, none⟩) 0 0, .slice (some ap) mp cp]).run Try.prog W' = .ok v1 w1 ∧ (Builtin.append_ #[45, 45] 45 #[v1, .slice (some ⟨w1.heap.size, 0, none⟩) 1 1]).run Try.prog (w1.alloc (.cells #[.string (bs s)] 9)) = .ok v2 w2 ∧ (Builtin.append_ #[45, 45] 45 #[v2, .slice (some aq) mq cq]).run Try.prog w2 = .ok v3 w3 ∧
      OwnS w3 W.heap.size v3 (lp ++ [s] ++ lq) ∧ Below W.heap.size W w1 ∧ Below W.heap.size W w2 ∧ Below W.heap.size W w3 := by
  obtain ⟨v1, w1, r1, o1, e1⟩ := appS2_run (own_none W' h38 g38) (hp.below hb) (by simp; omega) hb.size
  have b1 : Below W.heap.size W w1 := hb.grown e1 hb.size fun j hj => by cases hj; exact g38
  obtain ⟨v2, w2, r2, o2, e2⟩ := appS_run s o1 (by simp; omega) b1.size
  have b2 : Below W.heap.size W w2 := b1.trans e2
  obtain ⟨v3, w3, r3, o3, e3⟩ := appS2_run o2 (hq.below b2) (by simp; omega) b2.size
  have b3 : Below W.heap.size W w3 := b2.grown e3 b2.size fun j hj => (own_block o2 j hj).1
  exact ⟨v1, w1, v2, w2, v3, w3, r1, r2, r3, by simpa using o3, b1, b2, b3⟩
end
/-- A slice of the call's own that has some, written out. -/
theorem own_out {w : World} {base m : Nat} {v : Value} {L : List (List UInt8)} (h : OwnS w base v L) (hl : L.length = m + 1) : ∃ g c, v = .slice (some ⟨g, 0, none⟩) (m + 1) c ∧ Strs w w.heap.size (some ⟨g, 0, none⟩) (m + 1) c L ∧ m + 1 ≤ c ∧ c ≤ 9223372036854775807 := by
  obtain ⟨A, c, e, hS⟩ := h.strs
  have hlim := hS.lim
  unfold maxLen at hlim
  obtain ⟨g, off, eA, _, _⟩ := hS.at_ (by omega)
  rcases h.2 with ⟨e', _⟩ | ⟨g', cap, cur, e', _⟩
  · rw [e] at e'
    injection e' with e1
    rw [eA] at e1
    cases e1
  · rw [e] at e'
    injection e' with e1 e2 e3
    subst e1
    rw [hl] at e hS
    exact ⟨g', c, e, hS, hS.cap, hlim⟩
theorem step_append_run {P : Program} {ops : Array Oper} {o : Oper} {a : Act} {w : World} {K : Act → World → Prop} {Q : Exit → Act → World → Prop} {E : Prop} (hgd : o.guard = none) (s x : Operand) (t : TypeId)
    (ho : o.op = .call { callee := .builtin .append, args := #[s, x], argTypes := #[t, t] }) (v y v' : Value) (w' : World) (hs : a.eval s = v) (hx : a.eval x = y)
    (hr : (Builtin.append_ #[t, t] o.type #[v, y]).run P w = .ok v' w') (h : K (a.put o.dst v') w') : if Region.wanted o (yielded ops a.tmps) = true then Oper.wp P o a w K Q else E := by
  have hw : Region.wanted o (yielded ops a.tmps) = true := by simp [Region.wanted, hgd]
  rw [if_pos hw]
  exact Lib.wp_append_run w s x t t ho v y hs hx v' w' hr h
/-- At which world an operation stands. -/
theorem at_world {P : Program} {ops : Array Oper} {o : Oper} {a : Act} {K : Act → World → Prop} {Q : Exit → Act → World → Prop} {E : Prop} (W : World) (h : if Region.wanted o (yielded ops a.tmps) = true then Oper.wp P o a W K Q else E) : if Region.wanted o (yielded ops a.tmps) = true then Oper.wp P o a W K Q else E := h
end Go.Proofs.Ytdlephffcbkalaa
