/- Both alike; the reference: Sectors. -/
import Derived.Test.YtijbgdihnjnllaaGreatVRef
import Derived.Test.YtijbgdihnjnllaaGreatVSteps
namespace Go.Proofs.YtijbgdihnjnllaaGreat.V
open Go.RowKit
set_option linter.unusedVariables false
set_option maxRecDepth 20000
theorem byt_get (C : Nat → UInt8) {n i : Nat} (h : i < n) : (byt C 0 n)[i]? = some (C i) := by
  unfold byt
  rw [List.getElem?_map, List.getElem?_range h]
  show some (C (0 + i)) = _
  rw [Nat.zero_add]
theorem byt_none (C : Nat → UInt8) {n i : Nat} (h : n ≤ i) : (byt C 0 n)[i]? = none := List.getElem?_eq_none (by rw [byt_len]; exact h)
theorem pad_get {C : Nat → UInt8} {s a i : Nat} (hz : ∀ i, s ≤ i → C i = 0) (h : i < max s a) : (pad (byt C 0 s) a)[i]? = some (C i) := by
  unfold pad noughts
  by_cases h1 : i < s
  · rw [List.getElem?_append_left (by rw [byt_len]; exact h1), byt_get C h1]
  · rw [List.getElem?_append_right (by rw [byt_len]; omega), byt_len, List.getElem?_replicate, if_pos (by omega), hz i (by omega)]
theorem pad_none {C : Nat → UInt8} {s a i : Nat} (h : max s a ≤ i) : (pad (byt C 0 s) a)[i]? = none := List.getElem?_eq_none (by rw [pad_len, byt_len]; exact h)
/-- The document's Write, and the file's bytes. -/
theorem wrL_byt {C : Nat → UInt8} {s a n : Nat} {d : List UInt8} (hz : ∀ i, s ≤ i → C i = 0) (hn : d.length = n) : wrL (byt C 0 s) a d = byt (ovr C a d n) 0 (max s (a + n)) := by
  have hp : (pad (byt C 0 s) a).length = max s a := by rw [pad_len, byt_len]
  apply List.ext_getElem?
  intro i
  unfold wrL
  rw [hn]
  by_cases h1 : i < a
  · rw [List.getElem?_append_left (by rw [List.length_append, List.length_take, hp]; omega), List.getElem?_append_left (by rw [List.length_take, hp]; omega), List.getElem?_take, if_pos h1, pad_get hz (by omega), byt_get _ (by omega)]
    unfold ovr; rw [if_neg (by omega)]
  · by_cases h2 : i < a + n
    · rw [List.getElem?_append_left (by rw [List.length_append, List.length_take, hp]; omega), List.getElem?_append_right (by rw [List.length_take, hp]; omega), List.length_take, hp, byt_get _ (by omega)]
      unfold ovr; rw [if_pos (by omega), show i - min a (max s a) = i - a by omega, List.getElem?_eq_getElem (by omega)]; rfl
    · rw [List.getElem?_append_right (by rw [List.length_append, List.length_take, hp]; omega), List.length_append, List.length_take, hp, List.getElem?_drop, show a + n + (i - (min a (max s a) + d.length)) = i by omega]
      by_cases h3 : i < s
      · rw [pad_get hz (by omega), byt_get _ (by omega)]
        unfold ovr; rw [if_neg (by omega)]
      · rw [pad_none (by omega), byt_none _ (by omega)]
theorem byt_take {C : Nat → UInt8} {s k : Nat} (a : Nat) (h : a + k ≤ s) : ((byt C 0 s).drop a).take k = byt C a k := by
  apply List.ext_getElem?
  intro i
  rw [List.getElem?_take]
  split
  · rename_i hi
    rw [List.getElem?_drop, byt_get _ (by omega)]
    unfold byt
    rw [List.getElem?_map, List.getElem?_range hi]; rfl
  · rw [List.getElem?_eq_none (by rw [byt_len]; omega)]
section
variable {w0 w w' : World} {p d N q nn : Nat} {O : List Nat} {s : DS} {X : Secs2} {m m' : List Wr} {G : Nat → Prop} {f f' : Nat → Nat} {C' : Nat → UInt8} {y' : D.Nn} {low : List Int} {Tx : List Nat} {ep g : Nat}
/-- What a mount looks at. -/
structure Bas (N : Nat) (V : Img) (ep g : Nat) : Prop where
  sup : V 0 = U.sec N ep g
  seat : ∀ i, i < 8 → V (26 + i) = seat0
theorem Bas.aft (h : Bas N (view X m) ep g) (hnn : nn < 32) (hr : ∀ i, i < 86 → f i ≠ 0 → 43 ≤ f i) (ha : Aft w0 w p d N q nn O s X m G f low Tx m' y' f' C' w') : Bas N (view X m') ep g := by
  have hr' : ∀ i, i < 86 → f' i ≠ 0 → 43 ≤ f' i := fun i hi h0 => by have := ha.fl.mid.rng i hi; omega
  have hk : ∀ k, k < 34 → view X m' k = view X m k := fun k hk => ha.fr k (by omega) (by omega) (fun i hi h0 e => by have := hr' i hi h0; omega) (fun i hi h0 e => by have := hr i hi h0; omega)
  exact ⟨by rw [hk 0 (by omega)]; exact h.sup, fun i hi => by rw [hk _ (by omega)]; exact h.seat i hi⟩
end
end Go.Proofs.YtijbgdihnjnllaaGreat.V
namespace Go.Proofs.YtijbgdihnjnllaaGreat.V
open Go.RowKit
set_option linter.unusedVariables false
set_option maxRecDepth 20000
def cb (g : Nat → Bool) (k : Nat) : Nat := ((List.range k).filter g).length
def oneF (g : Nat → Bool) (k : Nat) : Bool := (List.range k).any fun b => g b && (decide (4 ≤ b) && decide (b < 12))
def twoF (g : Nat → Bool) (k i : Nat) : Bool := (List.range k).any fun b => g b && (decide (12 ≤ b) && decide ((b - 12) / 8 = i))
def ct (t : Nat → Bool) (k : Nat) : Nat := ((List.range k).filter t).length
def anyT (t : Nat → Bool) (k : Nat) : Bool := (List.range k).any t
theorem cb_no {g : Nat → Bool} {k : Nat} (h : g k = false) : cb g (k + 1) = cb g k := by unfold cb; rw [List.range_succ, List.filter_append]; simp [h]
theorem cb_yes {g : Nat → Bool} {k : Nat} (h : g k = true) : cb g (k + 1) = cb g k + 1 := by unfold cb; rw [List.range_succ, List.filter_append]; simp [h]
theorem cb_le (g : Nat → Bool) (k : Nat) : cb g k ≤ k := by unfold cb; exact Nat.le_trans (List.length_filter_le _ _) (by simp)
theorem any_no {g : Nat → Bool} {k : Nat} (h : g k = false) : anyT g (k + 1) = anyT g k := by unfold anyT; rw [List.range_succ, List.any_append]; simp [h]
theorem any_yes {g : Nat → Bool} {k : Nat} (h : g k = true) : anyT g (k + 1) = true := by unfold anyT; rw [List.range_succ, List.any_append]; simp [h]
theorem one_no {g : Nat → Bool} {k : Nat} (h : g k = false ∨ k < 4 ∨ 12 ≤ k) : oneF g (k + 1) = oneF g k := by
  refine any_no (g := fun b => g b && (decide (4 ≤ b) && decide (b < 12))) ?_
  rcases h with h | h | h
  · simp [h]
  · have : ¬ 4 ≤ k := by omega
    simp [this]
  · have : ¬ k < 12 := by omega
    simp [this]
theorem one_yes {g : Nat → Bool} {k : Nat} (h : g k = true) (h1 : 4 ≤ k) (h2 : k < 12) : oneF g (k + 1) = true := any_yes (g := fun b => g b && (decide (4 ≤ b) && decide (b < 12))) (by simp [h, h1, h2])
theorem two_no {g : Nat → Bool} {k : Nat} (h : g k = false ∨ k < 12) : twoF g (k + 1) = twoF g k := by
  funext i
  refine any_no (g := fun b => g b && (decide (12 ≤ b) && decide ((b - 12) / 8 = i))) ?_
  rcases h with h | h
  · simp [h]
  · have : ¬ 12 ≤ k := by omega
    simp [this]
theorem two_yes {g : Nat → Bool} {k : Nat} (h : g k = true) (h1 : 12 ≤ k) : twoF g (k + 1) = upb (twoF g k) ((k - 12) / 8) true := by
  funext i
  unfold upb
  by_cases e : i = (k - 12) / 8
  · rw [if_pos e]
    exact any_yes (g := fun b => g b && (decide (12 ≤ b) && decide ((b - 12) / 8 = i))) (by simp [h, h1, e])
  · rw [if_neg e]
    refine any_no (g := fun b => g b && (decide (12 ≤ b) && decide ((b - 12) / 8 = i))) ?_
    have : ¬ (k - 12) / 8 = i := Ne.symm e
    simp [this]
/-- How many sectors the document says. -/
def sct (g : Nat → Bool) : Nat := cb g 76 + ct (twoF g 76) 8 + (if oneF g 76 then 1 else 0) + (if anyT (twoF g 76) 8 then 1 else 0)
theorem one_iff {g : Nat → Bool} : oneF g 76 = true ↔ ∃ b, 4 ≤ b ∧ b < 12 ∧ g b = true := by
  unfold oneF
  rw [List.any_eq_true]
  constructor
  · rintro ⟨b, _, h⟩
    simp at h
    exact ⟨b, h.2.1, h.2.2, h.1⟩
  · rintro ⟨b, h1, h2, h⟩
    exact ⟨b, List.mem_range.2 (by omega), by simp [h, h1, h2]⟩
theorem two_iff {g : Nat → Bool} {i : Nat} : twoF g 76 i = true ↔ ∃ b, 12 ≤ b ∧ b < 76 ∧ (b - 12) / 8 = i ∧ g b = true := by
  unfold twoF
  rw [List.any_eq_true]
  constructor
  · rintro ⟨b, hb, h⟩
    simp at h
    exact ⟨b, h.2.1, List.mem_range.1 hb, h.2.2, h.1⟩
  · rintro ⟨b, h1, h2, h3, h⟩
    exact ⟨b, List.mem_range.2 h2, by simp [h, h1, h3]⟩
theorem anyT_iff {t : Nat → Bool} {k : Nat} : anyT t k = true ↔ ∃ i, i < k ∧ t i = true := by
  unfold anyT
  rw [List.any_eq_true]
  exact ⟨fun ⟨i, h, e⟩ => ⟨i, List.mem_range.1 h, e⟩, fun ⟨i, h, e⟩ => ⟨i, List.mem_range.2 h, e⟩⟩
/-- It counts what the file has. -/
theorem sct_nzn {N : Nat} {G : Nat → Prop} {V : Img} {y : D.Nn} {f : Nat → Nat} {g : Nat → Bool} (h : Mid N G V y f) (hmin : ∀ p, isPx p → f p ≠ 0 → ∃ j, j < 8 ∧ f (kid p j) ≠ 0) (hg : ∀ b, b < 76 → (g b = true ↔ f (ixb b) ≠ 0)) : sct g = nzn f := by
  have hlen : nzn f = (((List.range 76).filter g).map ixb ++ (((List.range 8).filter (twoF g 76)).map (14 + ·) ++ ((if oneF g 76 then [4] else []) ++ (if anyT (twoF g 76) 8 then [5] else [])))).length := by
    refine nzn_perm ?_ fun i => ?_
    · rw [List.nodup_append, List.nodup_append, List.nodup_append]
      refine ⟨?_, ⟨?_, ⟨?_, ?_, ?_⟩, ?_⟩, ?_⟩
      · exact List.pairwise_map.2 (List.Pairwise.imp (fun hne e => hne (ixb_inj e)) (List.nodup_range.filter _))
      · exact List.pairwise_map.2 (List.Pairwise.imp (fun hne e => hne (by omega)) (List.nodup_range.filter _))
      · split <;> simp
      · split <;> simp
      · intro a ha b hb e
        split at ha <;> split at hb <;> simp_all
      · intro a ha b hb e
        obtain ⟨j, hj, rfl⟩ := List.mem_map.1 ha
        rcases List.mem_append.1 hb with hb | hb
        · split at hb <;> simp at hb; omega
        · split at hb <;> simp at hb; omega
      · intro a ha b hb e
        obtain ⟨k, hk, rfl⟩ := List.mem_map.1 ha
        have hk76 := List.mem_range.1 (List.mem_filter.1 hk).1
        have hpx := ixb_px hk76
        subst e
        apply hpx
        rcases List.mem_append.1 hb with hb | hb
        · obtain ⟨j, hj, e⟩ := List.mem_map.1 hb
          have := List.mem_range.1 (List.mem_filter.1 hj).1
          rw [← e]; unfold isPx; omega
        · rcases List.mem_append.1 hb with hb | hb
          · split at hb <;> simp at hb; rw [hb]; exact .inl rfl
          · split at hb <;> simp at hb; rw [hb]; exact .inr (.inl rfl)
    · rw [List.mem_append, List.mem_append, List.mem_append, List.mem_map, List.mem_map]
      have hsub : ∀ j, j < 8 → (f (14 + j) ≠ 0 ↔ twoF g 76 j = true) := fun j hj => by
        obtain ⟨q1, q2, q3, q4⟩ := px14 hj
        rw [two_iff]
        constructor
        · intro h0
          obtain ⟨j2, hj2, hn⟩ := hmin (14 + j) (by rw [← q4]; exact q1) h0
          obtain ⟨r1, r2⟩ := kid_bix q1 q2 hj2
          rw [if_neg q3, q4] at r2
          rw [q4] at r1
          have e := ixb_bix (kid_lt (q4 ▸ q1) hj2).2 r1
          rw [r2] at e
          exact ⟨12 + 8 * (14 + j - 14) + j2, by omega, e.2, by omega, (hg _ e.2).2 (by rw [e.1]; exact hn)⟩
        · rintro ⟨b, h1, h2, h3, h4⟩
          exact path_nz h h2 ((hg b h2).1 h4) (by unfold path; rw [if_neg (by omega), if_neg (by omega), h3]; simp)
      constructor
      · rintro ⟨hi, h0⟩
        by_cases hp : isPx i
        · rcases hp with rfl | rfl | ⟨h1, h2⟩
          · right; right; left
            obtain ⟨j, hj, hn⟩ := hmin 4 (.inl rfl) h0
            rw [kid4] at hn
            have : oneF g 76 = true := one_iff.2 ⟨4 + j, by omega, by omega, (hg (4 + j) (by omega)).2 (by unfold ixb; rw [if_neg (by omega), if_pos (by omega), show 4 + j + 2 = 6 + j by omega]; exact hn)⟩
            rw [if_pos this]; simp
          · right; right; right
            obtain ⟨j, hj, hn⟩ := hmin 5 (.inr (.inl rfl)) h0
            rw [kid5] at hn
            have : anyT (twoF g 76) 8 = true := anyT_iff.2 ⟨j, hj, (hsub j hj).1 hn⟩
            rw [if_pos this]; simp
          · right; left
            exact ⟨i - 14, List.mem_filter.2 ⟨List.mem_range.2 (by omega), (hsub (i - 14) (by omega)).1 (by rw [show 14 + (i - 14) = i by omega]; exact h0)⟩, by omega⟩
        · left
          obtain ⟨e1, e2⟩ := ixb_bix hi hp
          exact ⟨bix i, List.mem_filter.2 ⟨List.mem_range.2 e2, (hg _ e2).2 (by rw [e1]; exact h0)⟩, e1⟩
      · rintro (⟨b, hb, rfl⟩ | ⟨j, hj, rfl⟩ | hb | hb)
        · obtain ⟨h1, h2⟩ := List.mem_filter.1 hb
          have h1 := List.mem_range.1 h1
          exact ⟨ixb_lt h1, (hg b h1).1 h2⟩
        · obtain ⟨h1, h2⟩ := List.mem_filter.1 hj
          have h1 := List.mem_range.1 h1
          exact ⟨by show 14 + j < 86; omega, (hsub j h1).2 h2⟩
        · split at hb <;> simp at hb
          rename_i ho
          obtain ⟨b, h1, h2, h3⟩ := one_iff.1 ho
          rw [hb]
          exact ⟨by omega, path_nz h (b := b) (by omega) ((hg b (by omega)).1 h3) (by unfold path; rw [if_neg (by omega), if_pos (by omega)]; simp)⟩
        · split at hb <;> simp at hb
          rename_i ho
          obtain ⟨j, hj, h3⟩ := anyT_iff.1 ho
          obtain ⟨b, h1, h2, _, h4⟩ := two_iff.1 h3
          rw [hb]
          exact ⟨by omega, path_nz h h2 ((hg b h2).1 h4) (by unfold path; rw [if_neg (by omega), if_neg (by omega)]; simp)⟩
  rw [hlen]
  unfold sct cb ct
  simp only [List.length_append, List.length_map]
  split <;> split <;> simp <;> omega
end Go.Proofs.YtijbgdihnjnllaaGreat.V
namespace Go.Proofs.YtijbgdihnjnllaaGreat.V
open Go.RowKit
set_option linter.unusedVariables false
set_option maxRecDepth 20000
/-- Eight bools in a block. -/
def tc (t : Nat → Bool) : List Value := (List.range 8).map fun i => .bool (t i)
theorem tc_len (t : Nat → Bool) : (tc t).length = 8 := by simp [tc]
theorem tc_get (t : Nat → Bool) {i : Nat} (h : i < 8) : (tc t)[i]? = some (.bool (t i)) := by simp [tc, h]
theorem tc_set (t : Nat → Bool) {i : Nat} (h : i < 8) (x : Bool) : (tc t).set i (.bool x) = tc (upb t i x) := by
  apply List.ext_getElem?
  intro k
  by_cases hk : k < 8
  · rw [tc_get _ hk]
    by_cases e : k = i
    · subst e
      rw [List.getElem?_set_self (by rw [tc_len]; exact hk), upb, if_pos rfl]
    · rw [List.getElem?_set_ne (Ne.symm e), tc_get _ hk, upb, if_neg e]
  · rw [List.getElem?_eq_none (by rw [List.length_set, tc_len]; omega), List.getElem?_eq_none (by rw [tc_len]; omega)]
abbrev z8 : Array Value := #[.bool false, .bool false, .bool false, .bool false, .bool false, .bool false, .bool false, .bool false]
def TW (w : World) (b : Nat) (t : Nat → Bool) : Prop := w.heap[b]? = some (.cells (tc t).toArray 128 (0, 0))
section
variable {w w' : World} {b : Nat} {t : Nat → Bool}
theorem TW.keep (h : TW w b t) (he : w'.heap[b]? = w.heap[b]?) : TW w' b t := he.trans h
theorem TW.lt (h : TW w b t) : b < w.heap.size := (Array.getElem?_eq_some_iff.1 h).1
theorem TW.c (h : TW w b t) {k : Nat} (hk : k < 8) : w.cell? ⟨b, k, none⟩ = some (.bool (t k)) := by rw [cell_of_row w b k _ 128 _ h, List.getElem?_toArray, tc_get t hk]
theorem TW.free (h : TW w b t) (i : Nat) : w.frozen? ⟨b, i, none⟩ = false := F.free_in h i
theorem TW.set (h : TW w b t) {k : Nat} (hk : k < 8) (x : Bool) : TW (w.setCell ⟨b, k, none⟩ (.bool x)) b (upb t k x) := by
  have := F.heap_set h k (.bool x)
  rw [List.setIfInBounds_toArray, tc_set t hk] at this
  exact this
end
set_option maxHeartbeats 2000000 in
theorem rfSectors_any (l : List UInt8) (g : Nat → Bool) (w : World) : Calls Tryz.prog 29 #[.agg (rc l g).toArray] w fun e w' => e = .returned (.int .i64 (sct g : Nat)) ∧ Below w.heap.size w w' := by
  have hs := s46 l g
  go_enter Tryz.func29, Tryz.ntmps29
  go_upto_region 3 with fail
  obtain ⟨a0, a1, a2⟩ := D.box1 w (Obj.cells (rc l g).toArray 46)
  generalize w.alloc (Obj.cells (rc l g).toArray 46) = w1 at *
  go_upto_region 4 with fail
  obtain ⟨b0, b1, b2⟩ := D.box1 w1 (Obj.cells z8 128)
  rw [a2] at b0 b1 b2
  have R1 : Hid (RF (w1.alloc (Obj.cells z8 128)) w.heap.size l g) := (b1.block _ (by omega)).trans a0
  have T1 : Hid (TW (w1.alloc (Obj.cells z8 128)) (w.heap.size + 1) (fun _ => false)) := b0
  have AB := Lib.hid (a1.trans (b1.mono (by omega)))
  obtain ⟨T, hT⟩ : ∃ T, w.heap.size + 1 = T := ⟨_, rfl⟩
  rw [hT] at T1 ⊢
  have hne : w.heap.size ≠ T := by omega
  have hle : w.heap.size ≤ T := by omega
  generalize w1.alloc (Obj.cells z8 128) = w2 at *
  clear a0 a1 a2 b0 b1 b2 hT
  go_wp2_with fail
  go_loopw [3, 4, 6] (fun u v i wr => ∃ k : Nat, k ≤ 76 ∧ i = .int .i64 k ∧ u = .int .i64 (cb g k : Nat) ∧ v = .bool (oneF g k) ∧ Hid (RF wr w.heap.size l g ∧ TW wr T (twoF g k) ∧ Below w.heap.size w wr)) (fun _ _ i _ => 76 - (intOf i).toNat)
  case atStart => exact ⟨0, Nat.zero_le _, rfl, rfl, rfl, R1.out, T1.out, AB.out⟩
  case round =>
    obtain ⟨k, hk, rfl, rfl, rfl, hr, ht, hb⟩ := hrel
    have HR := Lib.hid hr
    have HT := Lib.hid ht
    have HB := Lib.hid hb
    have hcl := cb_le g k
    by_cases hlt : k < 76
    · have hc := hr.cb hlt
      clear hr ht hb
      cases hg : g k with
      | false =>
        rw [hg] at hc
        have e1 := cb_no hg
        have e2 := one_no (g := g) (k := k) (.inl hg)
        have e3 := two_no (g := g) (k := k) (.inl hg)
        clear hg
        generalize cb g k = CB at *
        generalize oneF g k = OF at *
        go_wp2_with fail
        go_roundw
        case rel => exact ⟨k + 1, by omega, by go_num, by rw [e1], by rw [e2], HR.out, by rw [e3]; exact HT.out, HB.out⟩
        case measure => simp [intOf]; omega
      | true =>
        rw [hg] at hc
        have e1 := cb_yes hg
        by_cases h1 : 4 ≤ k
        · by_cases h2 : k < 12
          · have e2 := one_yes hg h1 h2
            have e3 := two_no (g := g) (k := k) (.inr h2)
            clear hg
            generalize cb g k = CB at *
            generalize oneF g k = OF at *
            go_wp2_with fail
            go_roundw
            case rel => exact ⟨k + 1, by omega, by go_num, by rw [e1]; go_num, by rw [e2], HR.out, by rw [e3]; exact HT.out, HB.out⟩
            case measure => simp [intOf]; omega
          · have e2 := one_no (g := g) (k := k) (.inr (.inr (by omega)))
            have e3 := two_yes hg (by omega)
            obtain ⟨z, hz⟩ : ∃ z, (k - 12) / 8 = z := ⟨_, rfl⟩
            rw [hz] at e3
            have hz8 : z < 8 := by omega
            have hzq : ((k : Int) - 12) / 8 = (z : Int) := by omega
            have hf := HT.out.free z
            obtain ⟨bb, hbb⟩ : ∃ bb, wr.cell? ⟨T, z, none⟩ = some (.bool bb) := ⟨_, HT.out.c hz8⟩
            have N1 : Hid (RF (wr.setCell ⟨T, z, none⟩ (.bool true)) w.heap.size l g) := HR.out.keep (Below.heap_setCell _ _ _ _ hne)
            have N2 := Lib.hid (HT.out.set hz8 true)
            rw [← e3] at N2
            have N3 : Hid (Below w.heap.size w (wr.setCell ⟨T, z, none⟩ (.bool true))) := HB.out.setCell (p := ⟨T, z, none⟩) hle _
            clear hg e3 hz HR HT HB
            generalize cb g k = CB at *
            generalize oneF g k = OF at *
            go_wp2_with fail
            go_roundw
            case rel => exact ⟨k + 1, by omega, by go_num, by rw [e1]; go_num, by rw [e2], N1.out, N2.out, N3.out⟩
            case measure => simp [intOf]; omega
        · have e2 := one_no (g := g) (k := k) (.inr (.inl (by omega)))
          have e3 := two_no (g := g) (k := k) (.inr (by omega))
          clear hg
          generalize cb g k = CB at *
          generalize oneF g k = OF at *
          go_wp2_with fail
          go_roundw
          case rel => exact ⟨k + 1, by omega, by go_num, by rw [e1]; go_num, by rw [e2], HR.out, by rw [e3]; exact HT.out, HB.out⟩
          case measure => simp [intOf]; omega
    · obtain rfl : k = 76 := by omega
      have HSC : Hid (sct g = cb g 76 + ct (twoF g 76) 8 + (if oneF g 76 then 1 else 0) + (if anyT (twoF g 76) 8 then 1 else 0)) := rfl
      clear hr ht hb
      generalize cb g 76 = CB at *
      generalize oneF g 76 = OF at *
      generalize twoF g 76 = TF at *
      generalize wr = V0 at *
      go_wp2_with fail
      go_loopw [3, 7, 8] (fun u v i wr => ∃ k : Nat, k ≤ 8 ∧ i = .int .i64 k ∧ u = .int .i64 ((CB + ct TF k : Nat) : Int) ∧ v = .bool (anyT TF k) ∧ Hid (V0 = wr)) (fun _ _ i _ => 8 - (intOf i).toNat)
      case atStart => exact ⟨0, Nat.zero_le _, rfl, rfl, rfl, rfl⟩
      case round =>
        obtain ⟨k, hk, rfl, rfl, rfl, hw⟩ := hrel
        obtain rfl := hw
        have hct : ct TF k ≤ k := cb_le TF k
        by_cases hlt2 : k < 8
        · have hc := HT.out.c hlt2
          cases hg : TF k with
          | false =>
            rw [hg] at hc
            have e1 : ct TF (k + 1) = ct TF k := cb_no hg
            have e2 := any_no hg
            clear hg
            generalize ct TF k = CT at *
            generalize anyT TF k = AT at *
            go_wp2_with fail
            go_roundw
            case rel => exact ⟨k + 1, by omega, by go_num, by rw [e1], by rw [e2], by first | exact rfl | exact trivial⟩
            case measure => simp [intOf]; omega
          | true =>
            rw [hg] at hc
            have e1 : ct TF (k + 1) = ct TF k + 1 := cb_yes hg
            have e2 := any_yes hg
            clear hg
            generalize ct TF k = CT at *
            generalize anyT TF k = AT at *
            go_wp2_with fail
            go_roundw
            case rel => exact ⟨k + 1, by omega, by go_num, by rw [e1]; first | (congr 1; omega) | congr 1, by rw [e2], by first | exact rfl | exact trivial⟩
            case measure => simp [intOf]; omega
        · obtain rfl : k = 8 := by omega
          generalize ct TF 8 = CT at *
          generalize anyT TF 8 = AT at *
          cases OF <;> cases AT
          all_goals
            go_wp2_with fail
            go_ret
            exact ⟨by rw [HSC.out]; exact congrArg (fun z => Ending.returned (Value.int IntKind.i64 z)) (by simp <;> omega), HB.out⟩
end Go.Proofs.YtijbgdihnjnllaaGreat.V
