/- Plain mathematics for the laws of a store: marks in a row, what a store just made holds, and what becomes of it. No program. -/
import Derived.Test.YtijbgdihnjnllaaGreatSMake
namespace Go.Proofs.YtijbgdihnjnllaaGreat
set_option linter.unusedVariables false
set_option maxRecDepth 20000

theorem bt_zeros (n : Nat) : K.bt zeros n = false := by
  unfold K.bt
  have : zeros[n / 8]?.getD 0 = 0 := by
    unfold zeros
    rw [List.getElem?_replicate]
    split <;> rfl
  rw [this]
  simp
theorem bt_markL {k : Nat} (hk : k ≤ 1024) (n : Nat) : K.bt (markL k) n = decide (n < k) := by
  induction k with
  | zero => rw [markL, bt_zeros]; simp
  | succ k ih =>
    rw [markL, K.bt_setb true (by rw [markL_len]; omega), ih (by omega)]
    by_cases h : n = k
    · subst h; simp
    · rw [if_neg h]
      congr 1
      rw [eq_iff_iff]
      omega
/-- Committed: as it would be. -/
theorem lay_getD {N : Nat} {X : Secs2} {m : List Wr} (hX : X.length = N) (hm : MOk N m) {n : Nat} (hn : n < N) : (lay X (toW m))[n]?.getD [] = view X m n := by
  rw [lay_view hX hm.rise (fun p hp => ⟨(okn_iff.1 (hm.all p hp).1).1, (hm.all p hp).2.1⟩) n hn]
  rfl
/-- What a store holds, in the laws. -/
structure Std (N : Nat) (X : Secs2) (ep g : Nat) (ns mk : List UInt8) : Prop where
  sup : X[0]?.getD [] = U.sec N ep g
  seat : ∀ i, i < 8 → X[26 + i]?.getD [] = seat0
  mark : X[34]?.getD [] = mk
  nd : X[35]?.getD [] = ns
  zero : ∀ n, 43 ≤ n → n < N → X[n]?.getD [] = zeros
def root0 : List UInt8 := D.put zeros 1 rootN.img
theorem view_ins' (X : Secs2) (m : List Wr) (k : Nat) (x : List UInt8) (n : Nat) : view X (ins (k : Int) x m) n = if k = n then x else view X m n := view_ins X m k x n
theorem view_seats (N : Nat) (X : Secs2) : ∀ k n, view X (seatsM N k) n = if n = 0 then U.sec N 0 0 else if 26 ≤ n ∧ n < 26 + k then seat0 else X[n]?.getD [] := by
  intro k
  induction k with
  | zero =>
    intro n
    rw [seatsM, show (0 : Int) = ((0 : Nat) : Int) from rfl, view_ins', view_nil]
    by_cases h : n = 0
    · simp [h]
    · rw [if_neg (by omega), if_neg h, if_neg (by omega)]
  | succ k ih =>
    intro n
    rw [seatsM, view_ins', ih]
    by_cases h : 26 + k = n
    · rw [if_pos h, if_neg (by omega), if_pos (by omega)]
    · rw [if_neg h]
      by_cases h0 : n = 0
      · simp [h0]
      · rw [if_neg h0, if_neg h0]
        by_cases h1 : 26 ≤ n ∧ n < 26 + k
        · rw [if_pos h1, if_pos (by omega)]
        · rw [if_neg h1, if_neg (by omega)]
theorem view_nodes (N : Nat) (X : Secs2) : ∀ k n, view X (nodesM N k) n = if n = 0 then U.sec N 0 0 else if 26 ≤ n ∧ n < 34 then seat0 else if n = 34 then markL 43 else if 35 ≤ n ∧ n < 35 + k then zeros else X[n]?.getD [] := by
  intro k
  induction k with
  | zero =>
    intro n
    rw [nodesM, show (34 : Int) = ((34 : Nat) : Int) from rfl, view_ins', view_seats]
    by_cases h : 34 = n
    · subst h; simp
    · rw [if_neg h]
      by_cases h0 : n = 0
      · simp [h0]
      · rw [if_neg h0, if_neg h0, if_neg (show ¬ n = 34 by omega), if_neg (show ¬ (35 ≤ n ∧ n < 35 + 0) by omega)]
  | succ k ih =>
    intro n
    rw [nodesM, view_ins', ih]
    by_cases h : 35 + k = n
    · rw [if_pos h, if_neg (by omega), if_neg (by omega), if_neg (by omega), if_pos (by omega)]
    · rw [if_neg h]
      by_cases h1 : 35 ≤ n ∧ n < 35 + k
      · rw [if_pos h1, if_pos (show 35 ≤ n ∧ n < 35 + (k + 1) by omega)]
      · rw [if_neg h1, if_neg (show ¬ (35 ≤ n ∧ n < 35 + (k + 1)) by omega)]
theorem view_fill (N : Nat) (X : Secs2) (n : Nat) : view X (fillM N X) n = if n = 0 then U.sec N 0 0 else if 26 ≤ n ∧ n < 34 then seat0 else if n = 34 then markL 43 else if n = 35 then root0 else if 36 ≤ n ∧ n < 43 then zeros else X[n]?.getD [] := by
  have hr : rootS N X = root0 := by
    unfold rootS putN root0
    rw [show 35 + 1 / 4 = 35 from rfl, view_nodes]
    rfl
  rw [fillM, hr, show (35 : Int) = ((35 : Nat) : Int) from rfl, view_ins', view_nodes]
  by_cases h : 35 = n
  · subst h; simp
  · rw [if_neg h, if_neg (show ¬ n = 35 by omega)]
    by_cases h1 : 36 ≤ n ∧ n < 43
    · rw [if_pos h1, if_pos (show 35 ≤ n ∧ n < 35 + 8 by omega)]
    · rw [if_neg h1, if_neg (show ¬ (35 ≤ n ∧ n < 35 + 8) by omega)]
theorem MOk.fill {N : Nat} (hN : 64 ≤ N) (hN1 : N ≤ 1024) : MOk N (fillM N (X0 N)) := by
  have h0 : MOk N (seatsM N 0) := (MOk.nil N).ins (okn_of hN1 (n := 0) (by omega) (by unfold inLog; omega)) (by omega) (lt_sec (U.ok_iff.2 (by omega))) (by right; simp)
  have hs : ∀ k, k ≤ 8 → MOk N (seatsM N k) := by
    intro k
    induction k with
    | zero => intro _; exact h0
    | succ k ih => intro hk; exact (ih (by omega)).ins (okn_of hN1 (n := 26 + k) (by omega) (by unfold inLog; omega)) (by omega) seat0_len (by right; have := seatsM_len N k; omega)
  have hn : ∀ k, k ≤ 8 → MOk N (nodesM N k) := by
    intro k
    induction k with
    | zero => intro _; exact (hs 8 (by omega)).ins (okn_of hN1 (n := 34) (by omega) (by unfold inLog; omega)) (by omega) (markL_len 43) (by right; have := seatsM_len N 8; omega)
    | succ k ih => intro hk; exact (ih (by omega)).ins (okn_of hN1 (n := 35 + k) (by omega) (by unfold inLog; omega)) (by omega) zeros_len (by right; have := nodesM_len N k; omega)
  refine (hn 8 (by omega)).ins (okn_of hN1 (n := 35) (by omega) (by unfold inLog; omega)) (by omega) ?_ (by right; have := nodesM_len N 8; omega)
  unfold rootS putN
  refine D.put_len ?_ (by omega) rootN.img_len
  rw [show 35 + 1 / 4 = 35 from rfl, view_nodes]
  simp
  exact zeros_len
theorem X0_zero {N n : Nat} (h : n < N) (h1 : n ≠ 1) : (X0 N)[n]?.getD [] = zeros := by
  unfold X0
  rw [List.getElem?_set_ne (by omega), List.getElem?_replicate, if_pos h]
  rfl
/-- A drive just made ready. -/
theorem Std.made {N : Nat} (hN : 64 ≤ N) (hN1 : N ≤ 1024) : Std N (X1 N) 0 0 root0 (markL 43) := by
  have hg : ∀ n, n < N → (X1 N)[n]?.getD [] = view (X0 N) (fillM N (X0 N)) n := fun n hn => lay_getD (X0_len N) (MOk.fill hN hN1) hn
  refine ⟨?_, fun i hi => ?_, ?_, ?_, fun n h1 h2 => ?_⟩
  · rw [hg 0 (by omega), view_fill]; rfl
  · rw [hg _ (by omega), view_fill, if_neg (by omega), if_pos (by omega)]
  · rw [hg 34 (by omega), view_fill]; rfl
  · rw [hg 35 (by omega), view_fill]; rfl
  · rw [hg n h2, view_fill, if_neg (by omega), if_neg (by omega), if_neg (by omega), if_neg (by omega), if_neg (by omega), X0_zero h2 (by omega)]
/-- What is committed over it. -/
theorem Std.commit {N : Nat} {X : Secs2} {ep g ep' g' : Nat} {ns mk ns' mk' : List UInt8} (h : Std N X ep g ns mk) (hX : X.length = N) (hN : 64 ≤ N) {m : List Wr} (hm : MOk N m)
    (h0 : view X m 0 = U.sec N ep' g') (h1 : ∀ i, i < 8 → find m ((26 + i : Nat) : Int) = none) (h2 : view X m 34 = mk') (h3 : view X m 35 = ns') (h4 : ∀ n, 43 ≤ n → n < N → view X m n = zeros) : Std N (lay X (toW m)) ep' g' ns' mk' := by
  refine ⟨?_, fun i hi => ?_, ?_, ?_, fun n g1 g2 => ?_⟩
  · rw [lay_getD hX hm (by omega), h0]
  · rw [lay_getD hX hm (by omega)]
    unfold view
    rw [h1 i hi]
    exact h.seat i hi
  · rw [lay_getD hX hm (by omega), h2]
  · rw [lay_getD hX hm (by omega), h3]
  · rw [lay_getD hX hm (by omega), h4 n g1 g2]
theorem MOk.one {N : Nat} (hN : 64 ≤ N) (hN1 : N ≤ 1024) {a b c : Nat} (ho : U.ok a b c = true) : MOk N [(0, U.sec a b c)] :=
  (MOk.nil N).ins (okn_of hN1 (n := 0) (by omega) (by unfold inLog; omega)) (by omega) (lt_sec ho) (by right; simp)
/-- Mounted once more. -/
theorem Std.mount {N : Nat} {X : Secs2} {ep g : Nat} {ns mk : List UInt8} (h : Std N X ep g ns mk) (hX : X.length = N) (hN : 64 ≤ N) (hN1 : N ≤ 1024) (ho : U.ok N ((ep + 1 : Nat) : Int) g = true) : Std N (lay X (toW [(0, U.sec N (ep + 1) g)])) (ep + 1) g ns mk := by
  have hf : ∀ n : Nat, 0 < n → find [((0 : Int), U.sec N (ep + 1) g)] n = none := fun n hn => by
    rw [find_none_iff]
    intro p hp
    simp at hp
    subst hp
    simp
    omega
  have hv : ∀ n : Nat, 0 < n → view X [((0 : Int), U.sec N (ep + 1) g)] n = X[n]?.getD [] := fun n hn => by unfold view; rw [hf n hn]; rfl
  refine h.commit hX hN (MOk.one hN hN1 ho) rfl (fun i _ => hf _ (by omega)) ?_ ?_ fun n g1 g2 => ?_
  · rw [hv 34 (by omega)]; exact h.mark
  · rw [hv 35 (by omega)]; exact h.nd
  · rw [hv n (by omega)]; exact h.zero n g1 g2
/-- The second node of a store just made is free, the first one is not. -/
theorem root_piece1 : D.piece root0 1 = rootN.img := D.piece_put zeros_len (by omega) rootN.img_len
theorem zeroN_ok : D.zeroN.up.ok = true := by decide
theorem root_piece2 : D.piece root0 2 = D.zeroN.img := by
  unfold root0
  rw [D.piece_put_ne zeros_len (by omega) (by omega) rootN.img_len (by omega)]
  decide +kernel
theorem nn_ok {k g : Nat} (hk : k = 1 ∨ k = 2) (hg : g ≤ 1073741824) : (nn k g).up.ok = true := by
  rw [D.Nd.ok_iff]
  refine ⟨?_, by rcases hk with rfl | rfl <;> rfl, ?_⟩
  · unfold D.Nd.nums
    rw [decide_eq_true_eq]
    show 0 ≤ (g : Int) ∧ (g : Int) ≤ 1073741824 ∧ 0 ≤ ((1 : Nat) : Int) ∧ ((1 : Nat) : Int) ≤ 1073741824
    omega
  · rcases hk with rfl | rfl
    · unfold D.Nd.kind; rw [decide_eq_true_eq]; right; left; exact ⟨rfl, (by decide : (1 : Int) ≤ ((1 : Nat) : Int)), (by decide : ((1 : Nat) : Int) ≤ 255), (by decide : (0 : Int) ≤ ((0 : Nat) : Int)), (by decide : ((0 : Nat) : Int) ≤ 9728)⟩
    · unfold D.Nd.kind; rw [decide_eq_true_eq]; right; right; exact ⟨rfl, rfl, (by decide : (0 : Int) ≤ ((0 : Nat) : Int)), (by decide : ((0 : Nat) : Int) ≤ 9728), rfl⟩
end Go.Proofs.YtijbgdihnjnllaaGreat
