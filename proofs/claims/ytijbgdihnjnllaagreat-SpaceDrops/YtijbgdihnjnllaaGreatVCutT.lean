/- Which sectors a Trunc puts; Trunc where there is room in what would be others. -/
import Derived.Test.YtijbgdihnjnllaaGreatVStep
namespace Go.Proofs.YtijbgdihnjnllaaGreat.V
open Go.RowKit
set_option linter.unusedVariables false
set_option maxRecDepth 20000
theorem kid_bix {p j : Nat} (hp : isPx p) (h5 : p ≠ 5) (hj : j < 8) : ¬ isPx (kid p j) ∧ bix (kid p j) = (if p = 4 then 4 else 12 + 8 * (p - 14)) + j := by
  unfold isPx at hp ⊢
  unfold kid bix
  rcases hp with rfl | rfl | ⟨h1, h2⟩
  · rw [if_pos rfl, if_pos rfl, if_neg (by omega), if_neg (by omega), if_pos (by omega)]; omega
  · omega
  · rw [if_neg (by omega), if_neg h5, if_neg (by omega), if_neg (by omega), if_neg (by omega), if_neg (by omega), if_neg (by omega)]; omega
section
variable {w0 w w' : World} {p d N q nn B size : Nat} {O : List Nat} {s : DS} {X : Secs2} {m : List Wr} {y : D.Nn} {f : Nat → Nat} {C : Nat → UInt8} {G : Nat → Prop}
theorem cut_leaf0 {i : Nat} (hl : ¬ isPx i) (h : cutF B f i = 0) (h0 : f i ≠ 0) : B ≤ bix i := by
  rw [cutF_leaf B f hl] at h
  split at h
  · exact absurd h h0
  · omega
theorem cut_leaf1 {i : Nat} (hl : ¬ isPx i) (h : cutF B f i ≠ 0) : bix i < B := by
  rw [cutF_leaf B f hl] at h
  split at h
  · assumption
  · exact absurd rfl h
theorem cut_kid {p : Nat} (hp : isPx p) (h : cutF B f p ≠ 0) : ∃ j, j < 8 ∧ cutF B f (kid p j) ≠ 0 := by
  rw [cutF_px B f hp] at h
  split at h
  · exact any8_iff.1 (by assumption)
  · exact absurd rfl h
theorem cut_kid0 {p : Nat} (hp : isPx p) (h : cutF B f p = 0) (h0 : f p ≠ 0) {j : Nat} (hj : j < 8) : cutF B f (kid p j) = 0 := by
  rw [cutF_px B f hp] at h
  split at h
  · exact absurd h h0
  · rename_i hn
    exact Decidable.byContradiction fun hc => hn (any8_iff.2 ⟨j, hj, hc⟩)
theorem px14 {j : Nat} (hj : j < 8) : isPx (kid 5 j) ∧ kid 5 j ≠ 5 ∧ kid 5 j ≠ 4 ∧ kid 5 j = 14 + j := by
  have : kid 5 j = 14 + j := by unfold kid; rw [if_neg (by omega), if_pos rfl]
  rw [this]
  unfold isPx
  omega
/-- Pointers that change lie on the way to the first block that goes. -/
theorem cut_tx (hmin : ∀ p, isPx p → f p ≠ 0 → ∃ j, j < 8 ∧ f (kid p j) ≠ 0) {p : Nat} (hp : isPx p) (h1 : cutF B f p ≠ 0) (h2 : ¬ ∀ j, j < 8 → cutF B f (kid p j) = f (kid p j)) : p ∈ path B := by
  obtain ⟨j, hjj⟩ := Classical.not_forall.1 h2
  obtain ⟨hj, hne⟩ := Classical.not_imp.1 hjj
  clear hjj
  have hc0 : cutF B f (kid p j) = 0 := (cutF_or B f (kid p j)).resolve_left hne
  have hf0 : f (kid p j) ≠ 0 := fun e => hne (by rw [hc0, e])
  obtain ⟨j', hj', hk'⟩ := cut_kid hp h1
  by_cases h5 : p = 5
  · subst h5
    obtain ⟨q1, q2, q3, q4⟩ := px14 hj
    obtain ⟨j2, hj2, hf2⟩ := hmin _ q1 hf0
    obtain ⟨r1, r2⟩ := kid_bix q1 q2 hj2
    have hb := cut_leaf0 r1 (cut_kid0 q1 hc0 hf0 hj2) hf2
    obtain ⟨s1, s2, s3, s4⟩ := px14 hj'
    obtain ⟨j3, hj3, hk3⟩ := cut_kid s1 hk'
    obtain ⟨t1, t2⟩ := kid_bix s1 s2 hj3
    have hb' := cut_leaf1 t1 hk3
    rw [r2, if_neg q3] at hb
    rw [t2, if_neg s3] at hb'
    unfold path
    rw [if_neg (by omega), if_neg (by omega)]
    simp
  · obtain ⟨r1, r2⟩ := kid_bix hp h5 hj
    obtain ⟨t1, t2⟩ := kid_bix hp h5 hj'
    have hb := cut_leaf0 r1 hc0 hf0
    have hb' := cut_leaf1 t1 hk'
    rw [r2] at hb
    rw [t2] at hb'
    unfold isPx at hp
    unfold path
    rcases hp with rfl | rfl | ⟨h3, h4⟩
    · rw [if_pos rfl] at hb hb'
      rw [if_neg (by omega), if_pos (by omega)]
      simp
    · exact absurd rfl h5
    · rw [if_neg (by omega)] at hb hb'
      rw [if_neg (by omega), if_neg (by omega)]
      have : 14 + (B - 12) / 8 = p := by omega
      simp [this]
/-- Nothing goes. -/
theorem cut_same (hmin : ∀ p, isPx p → f p ≠ 0 → ∃ j, j < 8 ∧ f (kid p j) ≠ 0) (hall : ∀ b, b < 76 → f (ixb b) ≠ 0 → b < B) : ∀ i, i < 86 → cutF B f i = f i := by
  have hl : ∀ i, i < 86 → ¬ isPx i → cutF B f i = f i := fun i hi hp => by
    obtain ⟨e1, e2⟩ := ixb_bix hi hp
    rw [cutF_leaf B f hp]
    by_cases h0 : f i = 0
    · rw [h0]; split <;> rfl
    · rw [if_pos (hall (bix i) e2 (by rw [e1]; exact h0))]
  have h1 : ∀ p, isPx p → (∀ j, j < 8 → cutF B f (kid p j) = f (kid p j)) → cutF B f p = f p := fun p hp hk => by
    by_cases h0 : f p = 0
    · rw [cutF_zero h0, h0]
    · rw [cutF_px B f hp, if_pos]
      obtain ⟨j, hj, hn⟩ := hmin p hp h0
      exact any8_iff.2 ⟨j, hj, by rw [hk j hj]; exact hn⟩
  intro i hi
  by_cases hp : isPx i
  · refine h1 i hp fun j hj => ?_
    by_cases h5 : i = 5
    · subst h5
      obtain ⟨q1, q2, q3, q4⟩ := px14 hj
      exact h1 _ q1 fun j2 hj2 => hl _ (kid_lt q1 hj2).2 (kid_bix q1 q2 hj2).1
    · exact hl _ (kid_lt hp hj).2 (kid_bix hp h5 hj).1
  · exact hl i hi hp
def TruP (w0 w : World) (p d N q nn : Nat) (O : List Nat) (s : DS) (X : Secs2) (m : List Wr) (G : Nat → Prop) (f : Nat → Nat) (C : Nat → UInt8) (size k : Nat) (e : Ending) (w' : World) : Prop :=
  e = .returned (.int .i64 0) ∧ ∃ low Tx m' y', Aft w0 w p d N q nn O s X m G f low Tx m' y' (cutF ((size + 127) / 128) f) (cutC C size) w' ∧ y'.s = size ∧ (keys m').length ≤ (keys m).length + k
theorem trunc_low (hs : Sto w0 w p d O N s X q m) (h : Fl N G (view X m) nn y f C) (hnn : nn < 32) (hk : (keys m).length ≤ 18) (hsz : size ≤ 9728) : Calls Tryz.prog 24 #[.pointer (some ⟨p, 0, none⟩), .int .i64 nn, .int .i64 (size : Int)] w (TruP w0 w p d N q nn O s X m G f C size 6) := by
  have hl := path_len ((size + 127) / 128)
  refine (trunc_yes (B := (size + 127) / 128) (low := 34 :: ((35 + nn / 4 : Nat) : Int) :: keys m) (Tx := ixb ((size + 127) / 128 - 1) :: path ((size + 127) / 128)) hs h hnn ⟨fun x hx => .inl (by simp [hx]), by simp only [List.length_cons]; omega, by simp⟩ (by simp) hsz rfl
    (fun p hp h1 h2 => List.mem_cons_of_mem _ (cut_tx h.min hp h1 h2)) (fun i _ _ _ => by simp)).mono ?_
  rintro e w' ⟨rfl, m', y', ha, hy⟩
  refine ⟨rfl, _, _, m', y', ha, hy, ?_⟩
  have := ha.bud.len_le ha.sto.mok.rise
  simp only [List.length_cons] at this
  omega
/-- A file that gets longer, or stays. -/
theorem trunc_more (hs : Sto w0 w p d O N s X q m) (h : Fl N G (view X m) nn y f C) (hnn : nn < 32) (hk : (keys m).length ≤ 22) (hsz : size ≤ 9728) (hge : y.s ≤ size) : Calls Tryz.prog 24 #[.pointer (some ⟨p, 0, none⟩), .int .i64 nn, .int .i64 (size : Int)] w (TruP w0 w p d N q nn O s X m G f C size 2) := by
  have hsame := cut_same (B := (size + 127) / 128) h.min fun b hb h0 => by have := h.few b hb h0; omega
  refine (trunc_yes (B := (size + 127) / 128) (low := 34 :: ((35 + nn / 4 : Nat) : Int) :: keys m) (Tx := []) hs h hnn (Bud.all hs.mok.rise hk _) (by simp) hsz rfl
    (fun p hp h1 h2 => absurd (fun j hj => hsame _ (kid_lt hp hj).2) h2) (fun i h1 _ h3 => absurd (h.zero i (by omega)) h3)).mono ?_
  rintro e w' ⟨rfl, m', y', ha, hy⟩
  refine ⟨rfl, _, _, m', y', ha, hy, ?_⟩
  have := ha.bud.len_le ha.sto.mok.rise
  simp only [List.length_cons, List.length_nil] at this
  omega
end
end Go.Proofs.YtijbgdihnjnllaaGreat.V
