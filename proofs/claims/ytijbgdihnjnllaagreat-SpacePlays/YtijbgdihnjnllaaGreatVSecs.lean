/- Trunc, Sectors. -/
import Derived.Test.YtijbgdihnjnllaaGreatVWalks
namespace Go.Proofs.YtijbgdihnjnllaaGreat.V
open Go.RowKit
set_option linter.unusedVariables false
set_option maxRecDepth 20000

/-- The bytes below a size. -/
def cutC (C : Nat → UInt8) (n : Nat) : Nat → UInt8 := fun i => if i < n then C i else 0
theorem blocks_nat {size B : Nat} (hB : (size + 127) / 128 = B) : T.blocks (size : Int) = (B : Int) := by
  unfold T.blocks
  split <;> omega
theorem zer_cut {C : Nat → UInt8} {s n t a : Nat} (hz : ∀ i, s ≤ i → C i = 0) (ha : min n s = a) (ht : n ≤ t) : zer (cutC C t) a (t - a) = cutC C n := by
  funext i
  unfold zer cutC
  by_cases h1 : a ≤ i ∧ i < a + (t - a)
  · rw [if_pos h1]
    by_cases h2 : i < n
    · rw [if_pos h2, hz i (by omega)]
    · rw [if_neg h2]
  · rw [if_neg h1]
    by_cases h2 : i < n
    · rw [if_pos h2, if_pos (by omega)]
    · rw [if_neg h2]
      by_cases h3 : i < t
      · rw [if_pos h3]; omega
      · rw [if_neg h3]
section
variable {w0 w w1 w2 w' : World} {p d N q bf nn : Nat} {O : List Nat} {s : DS} {X : Secs2} {m : List Wr} {G : Nat → Prop} {y : D.Nn} {f : Nat → Nat} {C : Nat → UInt8} {low : List Int} {Tx : List Nat}
/-- The rest of the last block will be 0. -/
theorem blank_cut {g : Nat → Nat} {y2 : D.Nn} {m2 : List Wr} {a t size B : Nat} (hop : Op w0 w p d N q bf nn O s X m2 G y2 g (cutC C t) low Tx) (hz : ∀ i, y.s ≤ i → C i = 0) (ha : min size y.s = a) (ht : 128 * B = t) (hB : (size + 127) / 128 = B) (hsz : size ≤ 9728) (hL : ∀ i, size ≤ i → i < 128 * B → C i ≠ 0 → ixb (B - 1) ∈ Tx) :
    Calls Tryz.prog 45 #[.pointer (some ⟨bf, 0, none⟩), .int .i64 (a : Int), .int .i64 (t : Int)] w (BlaQ w0 w p d N q bf nn O s X m2 G y2 g (cutC C size) low Tx) := by
  have e := zer_cut (C := C) (s := y.s) (n := size) (t := t) (a := a) hz ha (by omega)
  by_cases h : a = t
  · subst h
    rw [Nat.sub_self, zer_zero] at e
    rw [e] at hop
    exact blank_nil hop (by omega)
  · have := blank_some (a := a) (s' := t - a) (t := t) (by omega) hop (by omega) (by omega) (fun b hb j hj h1 h2 h3 => by
      have h4 : C (128 * b + j) ≠ 0 := fun e => h3 (by unfold cutC; split; exact e; rfl)
      have h5 : size ≤ 128 * b + j := by
        by_cases h6 : size ≤ 128 * b + j
        · exact h6
        · exact absurd (hz _ (by omega)) h4
      have h7 : b = B - 1 := by omega
      rw [h7]; exact hL _ h5 (by omega) h4)
    rw [e] at this
    exact this
def TruQ (w0 w : World) (p d N q nn : Nat) (O : List Nat) (s : DS) (X : Secs2) (m : List Wr) (G : Nat → Prop) (y : D.Nn) (f : Nat → Nat) (C : Nat → UInt8) (low : List Int) (Tx : List Nat) (size B : Nat) (e : Ending) (w' : World) : Prop :=
  e = .returned (.int .i64 0) ∧ ∃ m' y', Aft w0 w p d N q nn O s X m G f low Tx m' y' (cutF B f) (cutC C size) w' ∧ y'.s = size
set_option maxHeartbeats 4000000 in
theorem trunc_yes {size B : Nat} (hs : Sto w0 w p d O N s X q m) (h : Fl N G (view X m) nn y f C) (hnn : nn < 32) (hbud : Bud low Tx m (cutF B f)) (h35 : ((35 + nn / 4 : Nat) : Int) ∈ low) (hsz : size ≤ 9728) (hB : (size + 127) / 128 = B)
    (hT : ∀ p, isPx p → cutF B f p ≠ 0 → ¬ (∀ j, j < 8 → cutF B f (kid p j) = f (kid p j)) → p ∈ Tx) (hL : ∀ i, size ≤ i → i < 128 * B → C i ≠ 0 → ixb (B - 1) ∈ Tx) :
    Calls Tryz.prog 24 #[.pointer (some ⟨p, 0, none⟩), .int .i64 nn, .int .i64 (size : Int)] w (TruQ w0 w p d N q nn O s X m G y f C low Tx size B) := by
  obtain ⟨os1, os2, os3, os4, os5⟩ := ok_size h.ok h.kind
  obtain ⟨t, ht⟩ : ∃ t, 128 * B = t := ⟨_, rfl⟩
  obtain ⟨a, ha⟩ : ∃ a, min size y.s = a := ⟨_, rfl⟩
  have hmn : min (size : Int) (y.s : Int) = (a : Int) := by omega
  have hw1 : IntKind.i64.wrap ((B : Int) * 128) = (t : Int) := by rw [IntKind.wrap_i64]; omega
  have hg1 : decide ((size : Int) < 0) = false := by simp
  have hg2 : decide (9728 < (size : Int)) = false := by simp; omega
  have HBK := Lib.hid (T.blocks_any (size : Int) · (by omega))
  rw [blocks_nat hB] at HBK
  have HO := Lib.hid (h.open_ hs hnn)
  have H := Lib.hid h
  have HS := Lib.hid hs
  have HBU := Lib.hid hbud
  have H35 := Lib.hid h35
  have HT := Lib.hid hT
  have HL := Lib.hid hL
  have HNN := Lib.hid hnn
  have HSZ := Lib.hid hsz
  have HB := Lib.hid hB
  have HTA := Lib.hid (And.intro ht ha)
  have HOS := Lib.hid (And.intro os1 os2)
  clear h hs hbud h35 hT hL hnn hsz hB ht ha os1 os2 os3 os4 os5
  go_enter Tryz.func24, Tryz.ntmps24
  go_wp2_with fail
  refine HO.out.mono ?_
  rintro e w1 ⟨bf, rfl, hf, hbf, hb⟩
  have hbfr : bf ∉ O ∧ bf ≠ p ∧ bf ≠ q ∧ w0.heap.size ≤ bf := ⟨fun hm => by have := HS.out.ons.sit.drv.lt _ hm; omega, by have := HS.out.st.lt; omega, by have := HS.out.map.lt; omega, by have := HS.out.pf; have := HS.out.st.lt; omega⟩
  have HRD : Hid (Rd w0 w1 p d N q bf nn O s X m G y f C) := ⟨HS.out.below hb, hf, H.out.mid, H.out.con⟩
  have HB1 := Lib.hid hb
  have HBF := Lib.hid hbf
  have HBFR := Lib.hid hbfr
  clear hf hb hbf hbfr
  go_wp2_with fail
  refine (HBK.out w1).mono ?_
  rintro e w9 ⟨rfl, rfl⟩
  go_wp2_with fail
  refine (cut_yes HRD.out HBFR.out HBU.out HT.out).mono ?_
  rintro e w2 ⟨rfl, m2, y2, ho2, hfr2, hnu2, hmin2, hc2⟩
  have c5 := ho2.fil.c5
  rw [hnu2.2.2.2.1] at c5
  have HOP2 : Hid (Op w0 w2 p d N q bf nn O s X m2 G y2 (cutF B f) (cutC C t) low Tx) := by rw [← HTA.out.1]; exact ho2
  have HFR2 := Lib.hid hfr2
  have HNU2 := Lib.hid hnu2
  have HMIN2 := Lib.hid hmin2
  have HC2 := Lib.hid ((Chg.of_below HB1.out).tr hc2)
  clear ho2 hfr2 hnu2 hmin2 hc2
  go_wp2_with fail
  refine (blank_cut HOP2.out H.out.zero HTA.out.2 HTA.out.1 HB.out HSZ.out HL.out).mono ?_
  rintro e w3 ⟨rfl, m3, ho3, hfr3, hc3⟩
  have HOP3 := Lib.hid ho3
  have HFR3 := Lib.hid hfr3
  have HC3 := Lib.hid (HC2.out.tr (hc3.mono (O' := [q, bf]) fun b hb => by simp at hb; left; simp [hb]))
  have HCHD := Lib.hid (changed_yes (size := size) ho3 HNN.out (chd_ok ho3.mid H.out.ok H.out.kind HNU2.out HSZ.out) H35.out (by have := HNU2.out.2.2.2.2; have := HOS.out.2; omega))
  clear ho3 hfr3 hc3 c5
  go_wp2_with fail
  refine HCHD.out.mono ?_
  rintro e w4 ⟨rfl, hs4, hc4⟩
  have AFT := Lib.hid (aft_of (w := w) (f := f) (m := m) (size := size) HNN.out HBF.out H.out.ok H.out.kind (HS.out.view_len (by have := HNN.out; have := HS.out.n64; omega) (by have := HNN.out; unfold inLog; omega)) HS.out.n64 H35.out HOP3.out HNU2.out
    (fun k h1 h2 h3 => (HFR3.out k h1 h2).trans (HFR2.out k h1 h3)) (fun i hi h0 => by have := H.out.mid.rng i hi; omega) HSZ.out
    (fun i hi => if_neg (by omega))
    (fun b hb h0 => by
      have hB := HB.out
      rw [cutF_leaf B f (ixb_px hb), bix_ixb hb] at h0
      by_cases hlt : b < B
      · omega
      · rw [if_neg hlt] at h0; exact absurd rfl h0)
    HMIN2.out hs4 (HC3.out.tr hc4))
  clear hs4 hc4
  go_wp2_with fail
  go_ret
  exact ⟨rfl, _, _, AFT.out, rfl⟩
end
end Go.Proofs.YtijbgdihnjnllaaGreat.V
namespace Go.Proofs.YtijbgdihnjnllaaGreat.V
open Go.RowKit
set_option linter.unusedVariables false
set_option maxRecDepth 20000

abbrev OwnI (w : World) (base : Nat) (v : Value) (l : List Int) : Prop := w.ownsRow base 3 1 v l.length (l.map T.iv)
theorem news_cell (w : World) (x : Int) (j : Nat) (u : Value) (hu : [T.iv x][j]? = some u) : (w.alloc (.cells #[.int .i64 x] 3)).cell? ((⟨w.heap.size, 0, none⟩ : Addr).add j) = some u := by
  match j, hu with
  | 0, hu =>
    simp only [List.getElem?_cons_zero, Option.some.injEq] at hu
    subst hu
    rw [Addr.add_lit, World.cell?_alloc_mark]
    rfl
  | j + 1, hu => simp at hu
theorem appI_run {w : World} {base : Nat} {v : Value} {l : List Int} (x : Int) (hown : OwnI w base v l) (hl : (l.length + 1) * 8 ≤ 140737488355328) (hbase : base ≤ w.heap.size) :
    ∃ v' w', (Builtin.append_ #[54, 54] 54 #[v, .slice (some ⟨w.heap.size, 0, none⟩) 1 1]).run Tryz.prog (w.alloc (.cells #[.int .i64 x] 3)) = .ok v' w' ∧ OwnI w' base v' (l ++ [x]) ∧ (w.alloc (.cells #[.int .i64 x] 3)).grownBy w' v.ownBlock ∧ ∀ b, v'.ownBlock = some b → v.ownBlock = some b ∨ w.heap.size ≤ b := by
  obtain ⟨i0, hi, hz0, hz1, hz2⟩ := info_parts T.Tryz.info3
  have h1c : ∀ u ∈ [T.iv x], u.oneCell' = true := fun u hu => by simp only [List.mem_singleton] at hu; subst hu; rfl
  obtain ⟨v', w', hr, h2, h3, _⟩ := run_append_own (P := Tryz.prog) (w.alloc (.cells #[.int .i64 x] 3)) base 54 54 3 i0 _ 1 8 Tryz.underlying54 hi hz0 hz1 hz2 rfl (by decide) v l.length (l.map T.iv) (hown.alloc _) ⟨w.heap.size, 0, none⟩ 1 1 [T.iv x] (by simp)
    (news_cell w x) h1c (by unfold maxLen; omega) hl (by simp; omega)
  refine ⟨v', w', hr, by simpa [OwnI] using h2, h3, fun b hb => ?_⟩
  rcases hown.2 with ⟨rfl, h0⟩ | ⟨g, cap, cur, rfl, hg, hh, hn, hm, hs, ht⟩
  · obtain rfl : l = [] := List.length_eq_zero_iff.1 h0
    obtain ⟨v2, w2, hr2, k2, _⟩ := run_append_own (P := Tryz.prog) (w.alloc (.cells #[.int .i64 x] 3)) w.heap.size 54 54 3 i0 _ 1 8 Tryz.underlying54 hi hz0 hz1 hz2 rfl (by decide) (.slice none 0 0) 0 [] ⟨rfl, .inl ⟨rfl, rfl⟩⟩ ⟨w.heap.size, 0, none⟩ 1 1 [T.iv x] (by simp)
      (news_cell w x) h1c (by unfold maxLen; omega) hl (by simp)
    rw [hr] at hr2
    injection hr2 with e1 e2
    subst e1
    exact .inr (k2.lt b hb).1
  · by_cases hc : l.length + 1 ≤ cap
    · have hh' : (w.alloc (.cells #[.int .i64 x] 3)).heap[g]? = some (.cells cur 3 (0, 0)) := by
        rw [Below.heap_alloc _ _ _ (Array.getElem?_eq_some_iff.1 hh).1]; exact hh
      have hr2 := run_append_room (P := Tryz.prog) (w.alloc (.cells #[.int .i64 x] 3)) 54 54 3 i0 Tryz.underlying54 hi g l.length cap cur hh' ⟨w.heap.size, 0, none⟩ 1 1 [T.iv x] (by rw [hz1]; simp) (news_cell w x) h1c hc (by rw [hz1, hs]; simp; omega)
      rw [hr] at hr2
      injection hr2 with e1 e2
      subst e1
      exact .inl hb
    · have hcl : ∀ j u, (l.map T.iv)[j]? = some u → (w.alloc (.cells #[.int .i64 x] 3)).cell? ((⟨g, 0, none⟩ : Addr).add j) = some u := fun j u hu => by
        have hj : j < l.length := by have := (List.getElem?_eq_some_iff.1 hu).1; simpa using this
        rw [Addr.add_lit, Nat.zero_add, World.cell?_alloc_lt _ _ _ (show (⟨g, j, none⟩ : Addr).block < w.heap.size from (Array.getElem?_eq_some_iff.1 hh).1), F.cell_in hh, ← hu, ← Array.getElem?_toList, ← ht, List.getElem?_take, if_pos (by omega)]
      obtain ⟨v2, w2, hr2, k2, _⟩ := run_append_arg_grows (P := Tryz.prog) (w.alloc (.cells #[.int .i64 x] 3)) 54 54 3 i0 _ 1 8 Tryz.underlying54 hi hz0 hz1 hz2 rfl (by decide) ⟨g, 0, none⟩ l.length cap (l.map T.iv) (by simp) hcl ⟨w.heap.size, 0, none⟩ 1 1 [T.iv x] (by simp) (news_cell w x) (by omega) (by unfold maxLen; omega) hl
      rw [hr] at hr2
      injection hr2 with e1 e2
      subst e1
      have := (k2.lt b hb).1
      right
      simp at this
      omega
theorem ownI_sort {w : World} {base g cap m : Nat} {l : List Int} (h : OwnI w base (.slice (some ⟨g, 0, none⟩) m cap) l) : Sort.Holds (Value.int .i64) w g 0 l.toArray ∧ g < w.heap.size ∧ base ≤ g ∧ m = l.length ∧ l.length ≤ cap ∧ cap ≤ maxLen := by
  rcases h.2 with ⟨e, _⟩ | ⟨g', cap', cur, e, hg, hh, hn, hm, hs, ht⟩
  · cases e
  · injection e with e1 e2 e3
    injection e1 with e1
    injection e1 with e1
    subst e1 e2 e3
    refine ⟨fun j hj => ?_, (Array.getElem?_eq_some_iff.1 hh).1, hg, rfl, hn, hm⟩
    have hj' : j < l.length := by simpa using hj
    refine ⟨?_, F.free_in hh _⟩
    rw [Nat.zero_add, F.cell_in hh]
    have e : cur.toList[j]? = (l.map T.iv)[j]? := by
      rw [← ht, List.getElem?_take, if_pos (by omega)]
    rw [← Array.getElem?_toList, e]
    simp [hj', T.iv, getElem!_pos]
theorem ownI_put {w : World} {base g cap m : Nat} {l l' : List Int} (h : OwnI w base (.slice (some ⟨g, 0, none⟩) m cap) l) (hl : l'.length = l.length) (n : Nat) (os : Array Obj) :
    OwnI (Sort.grow (Sort.putRow (Value.int .i64) (Sort.ahead w n) g 0 l'.toArray) os) base (.slice (some ⟨g, 0, none⟩) m cap) l' ∧ Below base w (Sort.grow (Sort.putRow (Value.int .i64) (Sort.ahead w n) g 0 l'.toArray) os) := by
  rcases h.2 with ⟨e, _⟩ | ⟨g', cap', cur, e, hg, hh, hn, hm, hs, ht⟩
  · cases e
  · injection e with e1 e2 e3
    injection e1 with e1
    injection e1 with e1
    subst e1 e2 e3
    have hlt : g < w.heap.size := (Array.getElem?_eq_some_iff.1 hh).1
    have hblk : (Sort.grow (Sort.putRow (Value.int .i64) (Sort.ahead w n) g 0 l'.toArray) os).heap[g]? = some (.cells (Sort.putCells (Value.int .i64) 0 l'.toArray cur) 3 (0, 0)) := by
      rw [Sort.heap_grow_old _ _ (by simpa using hlt)]
      simp [Sort.putRow, Sort.mapBlock, Array.getElem?_modify, hh, Sort.onCells]
    refine ⟨⟨by simp, .inr ⟨g, cap, _, by rw [hl], hg, hblk, by rw [hl]; exact hn, hm, by simp [Sort.putCells, hs], ?_⟩⟩, ?_⟩
    · rw [Nat.mul_one]
      apply List.ext_getElem?
      intro j
      rw [List.getElem?_take]
      by_cases hj : j < l'.length
      · have hjc : j < cur.size := by omega
        simp [hj, Sort.putCells, hjc, T.iv]
      · simp [hj]
    · refine ⟨rfl, rfl, rfl, by simp, fun k hk => ?_⟩
      have hkw : k < w.heap.size := by omega
      rw [Sort.heap_grow_old _ _ (by simpa using hkw)]
      simp only [Sort.putRow, Sort.mapBlock, Sort.ahead, Array.getElem?_modify]
      rw [if_neg (by omega)]
abbrev srtI (l : List Int) : List Int := l.mergeSort fun x y => decide (x ≤ y)
theorem srtI_perm (l : List Int) : (srtI l).Perm l := List.mergeSort_perm l _
theorem srtI_lt {l : List Int} (h : l.Nodup) : (srtI l).Pairwise (· < ·) := by
  have h1 : (srtI l).Pairwise fun x y => decide (x ≤ y) = true := List.pairwise_mergeSort (by intro a b c; simp; omega) (by intro a b; simp; omega) l
  have h2 : (srtI l).Nodup := (srtI_perm l).nodup_iff.2 h
  exact (List.pairwise_and_iff.2 ⟨h1, h2⟩).imp fun {a b} ⟨x, y⟩ => by simp at x; omega
theorem compact_lt {l : List Int} (h : l.Pairwise (· < ·)) : Lib.compact l = l := by
  unfold Lib.compact
  rw [Lib.compactUpTo_all]
  · apply List.ext_getElem?
    intro i
    by_cases hi : i < l.length
    · simp [hi]
    · simp [hi]
  · intro j hj
    unfold Lib.keeps
    rw [decide_eq_true_iff]
    by_cases h0 : j = 0
    · exact .inl h0
    · right
      have hj1 : j - 1 < l.length := by omega
      have := List.pairwise_iff_getElem.1 h (j - 1) j hj1 hj (by omega)
      rw [getElem!_pos _ _ (by simpa using hj), getElem!_pos _ _ (by simpa using hj1)]
      simp
      omega
theorem sortI_any {w : World} {base : Nat} {v : Value} {l : List Int} (h : OwnI w base v l) (hl : l.length ≤ 5000000000000) : Calls Tryz.prog 56 #[v] w fun e w' => e = .returned (.tuple #[]) ∧ OwnI w' base v (srtI l) ∧ Below base w w' := by
  rcases h.2 with ⟨rfl, h0⟩ | ⟨g, cap, cur, rfl, hg, hh, hn, hm, hs, ht⟩
  · obtain rfl : l = [] := List.length_eq_zero_iff.1 h0
    refine (Tryz.slices_Sort_int_none none 0 w).mono ?_
    rintro e w' ⟨rfl, rfl⟩
    exact ⟨rfl, by rw [show srtI [] = [] by simp [srtI]]; exact h, Below.refl _ _⟩
  · obtain ⟨h1, h2, h3, h4, h5, h6⟩ := ownI_sort h
    refine (Tryz.slices_Sort_int g 0 cap l w h1 h2 (by omega)).mono ?_
    rintro e w' ⟨rfl, n, os, rfl⟩
    exact ⟨rfl, ownI_put h (l' := srtI l) (srtI_perm l).length_eq n os⟩
/-- The result: numbers that rise. -/
theorem compactI_any {w : World} {base : Nat} {v : Value} {l : List Int} (h : OwnI w base v l) (hp : l.Pairwise (· < ·)) (hl : l.length ≤ 5000000000000) : Calls Tryz.prog 57 #[v] w fun e w' => (∃ A c, e = .returned (.slice A l.length c) ∧ T.Ints w' w'.heap.size A l.length c l) ∧ Below base w w' := by
  rcases h.2 with ⟨rfl, h0⟩ | ⟨g, cap, cur, rfl, hg, hh, hn, hm, hs, ht⟩
  · obtain rfl : l = [] := List.length_eq_zero_iff.1 h0
    refine (Tryz.slices_Compact_int_empty none 0 w).mono ?_
    rintro e w' ⟨rfl, rfl⟩
    exact ⟨⟨none, 0, rfl, T.Ints.nil_ _ _⟩, Below.refl _ _⟩
  · obtain ⟨h1, h2, h3, h4, h5, h6⟩ := ownI_sort h
    refine (Tryz.slices_Compact_int g 0 cap l w h1 (by omega) h5).mono ?_
    rw [compact_lt hp]
    rintro e w' ⟨rfl, n, rfl⟩
    obtain ⟨k1, k2⟩ := ownI_put h (l' := l ++ List.replicate (l.length - l.length) 0) (by simp) n #[]
    rw [Sort.grow_empty] at k1 k2
    refine ⟨⟨_, _, rfl, ?_⟩, k2⟩
    rw [Nat.sub_self, List.replicate_zero, List.append_nil] at k1 ⊢
    obtain ⟨j1, j2, _⟩ := ownI_sort k1
    refine ⟨rfl, h5, h6, fun h0 => ⟨g, 0, rfl, j2, fun j hj => ?_⟩⟩
    have := (j1 j (by simpa using hj)).1
    rw [this]
    simp [hj, getElem!_pos]
end Go.Proofs.YtijbgdihnjnllaaGreat.V
namespace Go.Proofs.YtijbgdihnjnllaaGreat.V
open Go.RowKit
set_option linter.unusedVariables false
set_option maxRecDepth 20000

theorem ownI_below {w w' : World} {base n : Nat} {v : Value} {xs : List Value} (h : w.ownsRow base 3 1 v n xs) (hb : Below w.heap.size w w') : w'.ownsRow base 3 1 v n xs :=
  h.kept (F.grown_of_below hb none) (by cases hv : v.ownBlock <;> simp)
/-- The sectors of a file, in the order of the places. -/
def nzi (f : Nat → Nat) : List Nat := (List.range 86).filter fun i => f i != 0
def nzl (f : Nat → Nat) : List Int := (nzi f).map fun i => ((f i : Nat) : Int)
theorem mem_nzi {f : Nat → Nat} {i : Nat} : i ∈ nzi f ↔ i < 86 ∧ f i ≠ 0 := by simp [nzi]
theorem nzi_nodup (f : Nat → Nat) : (nzi f).Nodup := List.nodup_range.filter _
/-- What holds while sectors are told. -/
structure SI (w1 : World) (f : Nat → Nat) (D : Nat → Prop) (S : List Nat) (w : World) : Prop where
  bel : Below w1.heap.size w1 w
  lst : ∃ (v : Value) (ix : List Nat), w.heap[w1.heap.size]? = some (.cells #[v] 54 (0, 0)) ∧ OwnI w (w1.heap.size + 1) v (ix.map fun i => ((f i : Nat) : Int)) ∧ ix.Nodup ∧ (∀ i, i ∈ ix ↔ i < 86 ∧ D i ∧ f i ≠ 0) ∧ ∀ b, b ∈ S ↔ b = w1.heap.size ∨ v.ownBlock = some b
section
variable {w0 w w1 w2 w' : World} {p d N q bf nn : Nat} {O : List Nat} {s : DS} {X : Secs2} {m : List Wr} {G : Nat → Prop} {y : D.Nn} {f : Nat → Nat} {C : Nat → UInt8} {D : Nat → Prop} {S : List Nat}
theorem SI.lt (h : SI w1 f D S w) : ∀ b ∈ S, b < w.heap.size ∧ w1.heap.size ≤ b := by
  obtain ⟨v, ix, h1, h2, _, _, h5⟩ := h.lst
  intro b hb
  rcases (h5 b).1 hb with rfl | hb
  · exact ⟨(Array.getElem?_eq_some_iff.1 h1).1, Nat.le_refl _⟩
  · have := h2.lt b hb
    exact ⟨this.2, by omega⟩
theorem SI.below (h : SI w1 f D S w) (hb : Below w.heap.size w w') : SI w1 f D S w' := by
  obtain ⟨v, ix, h1, h2, h3⟩ := h.lst
  exact ⟨h.bel.trans (hb.mono h.bel.size), v, ix, (hb.block _ (Array.getElem?_eq_some_iff.1 h1).1).trans h1, ownI_below h2 hb, h3⟩
theorem wp_load54 {o : Oper} {a : Act} {w : World} {K : Act → World → Prop} {Q : Exit → Act → World → Prop} (x : Operand) (ho : o.op = .load 54 x) (p : Addr) (hx : a.eval x = .pointer (some p)) (v : Value) (hc : w.cell? p = some v)
    (h : K (a.put o.dst v) w) : o.wp Tryz.prog a w K Q := by
  unfold Oper.wp execOp
  simp only [ho, hx]
  simp [hc, go_sem]
  exact h
theorem wp_store54 {o : Oper} {a : Act} {w : World} {K : Act → World → Prop} {Q : Exit → Act → World → Prop} (x y : Operand) (ho : o.op = .store 54 x y) (p : Addr) (v : Value) (hx : a.eval x = .pointer (some p)) (hy : a.eval y = v) (u : Value) (hc : w.cell? p = some u) (hf : w.frozen? p = false)
    (h1 : ∃ A n c, v = .slice A n c) (h : K (a.put o.dst undef) (w.setCell p v)) : o.wp Tryz.prog a w K Q := by
  obtain ⟨A, n, c, rfl⟩ := h1
  unfold Oper.wp execOp
  simp only [ho, hx, hy]
  simp [hc, hf, go_sem]
  exact h
theorem build54 (x : Int) (w : World) : (Instr.buildSlice 54 1 #[(0, .int .i64 x)]).run Tryz.prog w = .ok (.slice (some ⟨w.heap.size, 0, none⟩) 1 1) (w.alloc (.cells #[.int .i64 x] 3)) := by
  obtain ⟨i0, hi, hz0, hz1, hz2⟩ := info_parts T.Tryz.info3
  refine run_buildSlice w 54 3 1 _ _ i0 _ Tryz.underlying54 hi hz0 (by rw [hz1]; omega) (by rw [hz1]; omega) ?_
  rw [hz1]
  simp [Instr.fill, Value.cells]
  apply Array.ext
  · simp
  · intro i h1 h2
    simp at h2
    subst h2
    simp
theorem ix_len {ix : List Nat} (h : ix.Nodup) (hl : ∀ i ∈ ix, i < 86) : ix.length ≤ 86 := by
  have := nodup_len h (L := List.range 86) fun i hi => List.mem_range.2 (hl i hi)
  simpa using this
set_option maxHeartbeats 2000000 in
theorem sec_call {ga oa ix : Nat} {Ct : Array Value} {t : TypeId} {bv lv : Value} (hi : ix < 86) (hI : SI w1 f D S w) (hd : ¬ D ix) (h0 : f ix ≠ 0) (hrow : w.heap[ga]? = some (.cells Ct t (0, 0))) (hC : Ct[oa]? = some (.int .i64 (f ix : Nat))) (ho : ga ∉ S) :
    Calls Tryz.prog 55 #[.pointer (some ⟨ga, oa, none⟩), bv, lv, .pointer (some ⟨w1.heap.size, 0, none⟩)] w (VR (SI w1 f) (fun i => D i ∨ i = ix) S ga oa (f ix) Ct t w) := by
  obtain ⟨v, L, hb, hown, hnd, hmem, hS⟩ := hI.lst
  have hga : ga < w.heap.size := (Array.getElem?_eq_some_iff.1 hrow).1
  have hgb : ga ≠ w1.heap.size ∧ v.ownBlock ≠ some ga := ⟨fun e => ho ((hS ga).2 (.inl e)), fun e => ho ((hS ga).2 (.inr e))⟩
  have hbl : w1.heap.size < w.heap.size := (Array.getElem?_eq_some_iff.1 hb).1
  have hob : v.ownBlock ≠ some w1.heap.size := fun e => by have := (hown.lt _ e).1; omega
  have hll : L.length ≤ 86 := ix_len hnd fun i hi => ((hmem i).1 hi).1
  obtain ⟨v', w2, hrun, hown2, hgr, hfr⟩ := appI_run (w := w.drew) ((f ix : Nat) : Int) (ownI_below hown (Below.refl _ w).drew) (by rw [List.length_map]; omega) (by show w1.heap.size + 1 ≤ w.heap.size; omega)
  have hsz : w.drew.heap.size = w.heap.size := rfl
  have hblk : ∀ k, k < w.heap.size → v.ownBlock ≠ some k → w2.heap[k]? = w.heap[k]? := fun k hk hn => by
    rw [hgr.block k (by simp; omega) (fun e => hn e.symm), Below.heap_alloc _ _ _ (by exact hk)]; rfl
  have hcs : Chg S w w2 := ((Chg.refl _ w).drew.alloc _).grown hgr fun k hk => .inl ((hS k).2 (.inr hk))
  have hcg : Chg (ga :: S) w w2 := hcs.mono fun b hb => .inl (by simp [hb])
  have hb2 : w2.heap[w1.heap.size]? = some (.cells #[v] 54 (0, 0)) := (hblk _ hbl hob).trans hb
  have hn1 : v'.ownBlock ≠ some w1.heap.size := fun e => by have := (hown2.lt _ e).1; omega
  have hbx : w1.heap.size ∈ S := (hS _).2 (.inl rfl)
  have hfin : Hid (VR (SI w1 f) (fun i => D i ∨ i = ix) S ga oa (f ix) Ct t w (.returned (.int .i64 0)) (w2.setCell ⟨w1.heap.size, 0, none⟩ v')) := by
    refine ⟨rfl, w1.heap.size :: v'.ownBlock.toList, ⟨(hI.bel.trans (hcs.below hI.bel.size fun b hb => (hI.lt b hb).2)).setCell (p := ⟨w1.heap.size, 0, none⟩) (Nat.le_refl _) _, v', L ++ [ix], F.heap_set hb2 0 v', ?_, ?_, ?_, ?_⟩, ?_, hcg.setCell (p := ⟨w1.heap.size, 0, none⟩) (.inl (by simp [hbx])) _, ?_⟩
    · rw [List.map_append]
      exact ownsRow_setCell_other hown2 (a := ⟨w1.heap.size, 0, none⟩) hn1 v'
    · rw [List.nodup_append]
      refine ⟨hnd, by simp, fun a ha b hb e => ?_⟩
      simp only [List.mem_singleton] at hb
      subst hb
      exact hd ((hmem b).1 (e ▸ ha)).2.1
    · intro i
      rw [List.mem_append, List.mem_singleton, hmem]
      constructor
      · rintro (⟨a, b, c⟩ | rfl)
        · exact ⟨a, .inl b, c⟩
        · exact ⟨hi, .inr rfl, h0⟩
      · rintro ⟨a, b | b, c⟩
        · exact .inl ⟨a, b, c⟩
        · exact .inr b
    · intro b
      rw [List.mem_cons, Option.mem_toList]
    · rw [set_self hC, Below.heap_setCell _ _ _ _ (by exact hgb.1), hblk ga hga hgb.2]; exact hrow
    · intro b hb
      rw [List.mem_cons, Option.mem_toList] at hb
      rcases hb with rfl | hb
      · exact .inl hbx
      · rcases hfr b hb with a | a
        · exact .inl ((hS b).2 (.inr a))
        · exact .inr a
  have c0 : w.drew.cell? ⟨w1.heap.size, 0, none⟩ = some v := cell_of_row _ _ 0 _ _ _ hb
  have c1 : w.drew.cell? ⟨ga, oa, none⟩ = some (.int .i64 (f ix : Nat)) := (F.cell_in hrow oa).trans hC
  have c2 : (w.drew.alloc (.cells #[.int .i64 (f ix : Nat)] 3)).cell? ⟨w1.heap.size, 0, none⟩ = some v := (World.cell?_alloc_lt w.drew _ ⟨w1.heap.size, 0, none⟩ hbl).trans c0
  have cb2 : w2.cell? ⟨w1.heap.size, 0, none⟩ = some v := cell_of_row _ _ 0 _ _ _ hb2
  have fb2 : w2.frozen? ⟨w1.heap.size, 0, none⟩ = false := F.free_in hb2 0
  obtain ⟨vA, vn, vc, hv'⟩ : ∃ A n c, v' = .slice A n c := by
    rcases hown2.2 with ⟨e, _⟩ | ⟨g, cap, cur, e, _⟩
    · exact ⟨_, _, _, e⟩
    · exact ⟨_, _, _, e⟩
  obtain ⟨uA, un, uc, hv⟩ : ∃ A n c, v = .slice A n c := by
    rcases hown.2 with ⟨e, _⟩ | ⟨g, cap, cur, e, _⟩
    · exact ⟨_, _, _, e⟩
    · exact ⟨_, _, _, e⟩
  have HRUN := Lib.hid hrun
  have HK0 : Hid ((w.drew.alloc (.cells #[.int .i64 (f ix : Nat)] 3)).cell? ⟨ga, oa, none⟩ = some (.int .i64 (f ix : Nat))) := (World.cell?_alloc_lt w.drew _ ⟨ga, oa, none⟩ hga).trans c1
  have HK1 : Hid (w2.cell? ⟨ga, oa, none⟩ = some (.int .i64 (f ix : Nat))) := (World.cell?_of_block (a := ⟨ga, oa, none⟩) (hblk ga hga hgb.2)).trans c1
  have HK2 : Hid ((w2.setCell ⟨w1.heap.size, 0, none⟩ v').cell? ⟨ga, oa, none⟩ = some (.int .i64 (f ix : Nat))) := (World.cell?_of_block (a := ⟨ga, oa, none⟩) (Below.heap_setCell _ _ _ _ (by exact hgb.1))).trans HK1.out
  clear hI hb hown hnd hmem hS hrow hC ho hob hll hrun hown2 hgr hfr hsz hblk hcs hcg hb2 hn1 hbx h0 hd hi hgb
  subst hv hv'
  generalize hbx : w1.heap.size = bx at *
  generalize hfx : f ix = fx at *
  go_enter Tryz.func55, Tryz.ntmps55
  go_upto_region 1 with fail
  refine wp_region_noPanic ?_
  refine wp_region_held_drew (S := fun W => W.cell? ⟨ga, oa, none⟩ = some (.int .i64 (fx : Nat))) (by kernel_rfl) c1 (fun hHeld => ?_)
  refine wpAnyH_take (i := 1) (oi := ⟨some 9, .move (.tmp 0), 121, "space.go:344", #[], none⟩) (v := .pointer (some ⟨ga, oa, none⟩)) rfl (by kernel_rfl) (by kernel_rfl) (by kernel_rfl) (fun _ _ _ h => h) (Or.inl ⟨by rfl, fun w hw => by go_simp⟩) (by assumption) ?_
  simp only [Act.put, List.setIfInBounds_toArray, List.set_cons_zero, List.set_cons_succ]
  refine wpAnyH_take (i := 2) (oi := ⟨some 10, .nilCheck (.tmp 9), 0, "space.go:344", #[⟨1, .data⟩], none⟩) (v := .pointer (some ⟨ga, oa, none⟩)) rfl (by kernel_rfl) (by kernel_rfl) (by kernel_rfl) (fun _ _ _ h => h) (Or.inl ⟨by rfl, fun w hw => by go_simp⟩) (by assumption) ?_
  simp only [Act.put, List.setIfInBounds_toArray, List.set_cons_zero, List.set_cons_succ]
  refine wpAnyH_take (i := 3) (oi := ⟨some 11, .load 3 (.tmp 10), 3, "space.go:344", #[⟨2, .data⟩], none⟩) (v := .int .i64 (fx : Nat)) rfl (by kernel_rfl) (by kernel_rfl) (by kernel_rfl) (fun _ _ _ h => h) (Or.inl ⟨by rfl, fun w hw => by go_simp⟩) (by assumption) ?_
  simp only [Act.put, List.setIfInBounds_toArray, List.set_cons_zero, List.set_cons_succ]
  refine wpAnyH_ready (rs := [0, 4]) (by kernel_rfl) (by simp) ?_
  refine AllReadyH.cons (o := ⟨some 8, .load 54 (.tmp 3), 54, "space.go:344", #[], none⟩) rfl (fun K hK => ?_) (AllReadyH.cons (o := ⟨some 12, .buildSlice 54 1 #[(0, .tmp 11)], 54, "space.go:344", #[⟨3, .data⟩], none⟩) rfl (fun K hK => ?_) AllReadyH.nil)
  · skip
    rw [if_pos (by rfl)]
    refine wp_load54 (.tmp 3) rfl ⟨bx, 0, none⟩ rfl (.slice uA un uc) (by exact c0) ?_
    simp only [Act.put, List.setIfInBounds_toArray, List.set_cons_zero, List.set_cons_succ]
    refine hK.out _ _ hHeld (fun hHeld => ?_)
    clear hK K
    refine wpAnyH_ready (rs := [4]) (by kernel_rfl) (by simp) ?_
    refine AllReadyH.cons (o := ⟨some 12, .buildSlice 54 1 #[(0, .tmp 11)], 54, "space.go:344", #[⟨3, .data⟩], none⟩) rfl (fun K hK => ?_) AllReadyH.nil
    refine step_buildSlice_run rfl 54 1 (.tmp 11) rfl (.int .i64 (fx : Nat)) rfl _ _ (build54 _ w.drew) ?_
    simp only [Act.put, List.setIfInBounds_toArray, List.set_cons_zero, List.set_cons_succ]
    refine hK.out _ _ HK0.out (fun hHeld => ?_)
    clear hK K
    refine wpAnyH_ready (rs := [5]) (by kernel_rfl) (by simp) ?_
    refine AllReadyH.cons (o := ⟨some 13, .call { callee := .builtin .append, args := #[.tmp 8, .tmp 12], argTypes := #[54, 54] }, 54, "space.go:344", #[⟨0, .data⟩, ⟨4, .data⟩], none⟩) rfl (fun K hK => ?_) AllReadyH.nil
    refine step_append_run rfl _ _ 54 rfl _ _ _ _ rfl rfl HRUN.out ?_
    simp only [Act.put, List.setIfInBounds_toArray, List.set_cons_zero, List.set_cons_succ]
    refine hK.out _ _ HK1.out (fun hHeld => ?_)
    clear hK K
    refine wpAnyH_ready (rs := [6]) (by kernel_rfl) (by simp) ?_
    refine AllReadyH.cons (o := ⟨none, .store 54 (.tmp 3) (.tmp 13), 0, "space.go:344", #[⟨5, .data⟩, ⟨5, .chain⟩, ⟨0, .phase⟩, ⟨1, .phase⟩, ⟨2, .phase⟩, ⟨3, .phase⟩, ⟨4, .phase⟩, ⟨5, .phase⟩], none⟩) rfl (fun K hK => ?_) AllReadyH.nil
    rw [if_pos (by rfl)]
    refine wp_store54 (.tmp 3) (.tmp 13) rfl ⟨bx, 0, none⟩ _ rfl rfl _ cb2 fb2 ⟨_, _, _, rfl⟩ ?_
    simp only [Act.put]
    refine hK.out _ _ HK2.out (fun hHeld => ?_)
    clear hK K
    refine wpAnyH_done (by kernel_rfl) ?_ _
    refine NoPanic.normal ?_
    go_wp2_with fail
    go_ret
    exact hfin.out
  · skip
    refine step_buildSlice_run rfl 54 1 (.tmp 11) rfl (.int .i64 (fx : Nat)) rfl _ _ (build54 _ w.drew) ?_
    simp only [Act.put, List.setIfInBounds_toArray, List.set_cons_zero, List.set_cons_succ]
    refine hK.out _ _ HK0.out (fun hHeld => ?_)
    clear hK K
    refine wpAnyH_ready (rs := [0]) (by kernel_rfl) (by simp) ?_
    refine AllReadyH.cons (o := ⟨some 8, .load 54 (.tmp 3), 54, "space.go:344", #[], none⟩) rfl (fun K hK => ?_) AllReadyH.nil
    rw [if_pos (by rfl)]
    refine wp_load54 (.tmp 3) rfl ⟨bx, 0, none⟩ rfl (.slice uA un uc) (by exact c2) ?_
    simp only [Act.put, List.setIfInBounds_toArray, List.set_cons_zero, List.set_cons_succ]
    refine hK.out _ _ hHeld (fun hHeld => ?_)
    clear hK K
    refine wpAnyH_ready (rs := [5]) (by kernel_rfl) (by simp) ?_
    refine AllReadyH.cons (o := ⟨some 13, .call { callee := .builtin .append, args := #[.tmp 8, .tmp 12], argTypes := #[54, 54] }, 54, "space.go:344", #[⟨0, .data⟩, ⟨4, .data⟩], none⟩) rfl (fun K hK => ?_) AllReadyH.nil
    refine step_append_run rfl _ _ 54 rfl _ _ _ _ rfl rfl HRUN.out ?_
    simp only [Act.put, List.setIfInBounds_toArray, List.set_cons_zero, List.set_cons_succ]
    refine hK.out _ _ HK1.out (fun hHeld => ?_)
    clear hK K
    refine wpAnyH_ready (rs := [6]) (by kernel_rfl) (by simp) ?_
    refine AllReadyH.cons (o := ⟨none, .store 54 (.tmp 3) (.tmp 13), 0, "space.go:344", #[⟨5, .data⟩, ⟨5, .chain⟩, ⟨0, .phase⟩, ⟨1, .phase⟩, ⟨2, .phase⟩, ⟨3, .phase⟩, ⟨4, .phase⟩, ⟨5, .phase⟩], none⟩) rfl (fun K hK => ?_) AllReadyH.nil
    rw [if_pos (by rfl)]
    refine wp_store54 (.tmp 3) (.tmp 13) rfl ⟨bx, 0, none⟩ _ rfl rfl _ cb2 fb2 ⟨_, _, _, rfl⟩ ?_
    simp only [Act.put]
    refine hK.out _ _ HK2.out (fun hHeld => ?_)
    clear hK K
    refine wpAnyH_done (by kernel_rfl) ?_ _
    refine NoPanic.normal ?_
    go_wp2_with fail
    go_ret
    exact hfin.out
end
end Go.Proofs.YtijbgdihnjnllaaGreat.V
namespace Go.Proofs.YtijbgdihnjnllaaGreat.V
open Go.RowKit
set_option linter.unusedVariables false
set_option maxRecDepth 20000
section
variable {w0 w w1 w2 w' : World} {p d N q bf nn : Nat} {O : List Nat} {s : DS} {X : Secs2} {m : List Wr} {G : Nat → Prop} {y : D.Nn} {f : Nat → Nat} {C : Nat → UInt8} {D : Nat → Prop} {S : List Nat}
theorem sec_vis (h : Rd w0 w1 p d N q bf nn O s X m G y f C) : Vis bf 55 #[.pointer (some ⟨w1.heap.size, 0, none⟩)] f f (SI w1 f) [] where
  ent := enters_of Tryz.func55 (by kernel_rfl) rfl
  bel := fun h hb => h.below hb
  lt := fun hI => ⟨fun b hb => (hI.lt b hb).1, fun b hb => absurd hb (by simp), Nat.lt_of_lt_of_le h.fil.lt hI.bel.size⟩
  non := fun {D S w D'} hI h1 h2 => by
    obtain ⟨v, ix, a, b, c, e, g⟩ := hI.lst
    refine ⟨hI.bel, v, ix, a, b, c, fun i => ?_, g⟩
    rw [e]
    constructor
    · rintro ⟨x, y, z⟩; exact ⟨x, h1 i y, z⟩
    · rintro ⟨x, y, z⟩
      rcases h2 i y with u | u
      · exact ⟨x, u, z⟩
      · exact absurd u z
  gz := fun hp h0 j hj => h.mid.rep.none_ _ hp h0 j hj
  ptr := by
    intro D S w p' hI hp hd h0
    have hr := h.mid.rng p' (px_lt hp)
    obtain ⟨h1, h2⟩ := h.mid.rep.some_ p' hp h0
    have h' := h.below hI.bel
    refine (pointers_yes h'.sto h'.fil.c0 (by omega) (by omega) h1).mono ?_
    rintro er w1 ⟨L, rfl, hl, hL, hb⟩
    refine ⟨L, rfl, ?_, hL, hb⟩
    unfold Lst at hl ⊢
    rw [hl, pl_congr h2]
  leaf := fun hi hp hI hd h0 hrow hC ho => sec_call hi hI hd h0 hrow hC ho.1
  inner := fun {D S w ga oa C t px L h'} hp hI hd hk h0 hrow hC ho hl hh =>
    ⟨fun i => D i ∨ i = px, .inr rfl, fun _ => rfl, fun _ => rfl, fun _ hx => absurd (fun _ _ => rfl) hx, sec_call (px_lt hp) hI hd h0 hrow hC ho.1⟩
  put := fun hp hI hd hk h0 hg heq => absurd (fun _ _ => rfl) heq
/-- What 'Sectors' answers. -/
def SecR (w : World) (f : Nat → Nat) (e : Ending) (w' : World) : Prop := ∃ A c L, e = .returned (.tuple #[.slice A L.length c, .int .i64 0]) ∧ T.Ints w' w'.heap.size A L.length c L ∧ L.Pairwise (· < ·) ∧ L.Perm (nzl f) ∧ Below w.heap.size w w'
theorem perm_of {α : Type} [DecidableEq α] {l l' : List α} (h : l.Nodup) (h' : l'.Nodup) (hm : ∀ x, x ∈ l ↔ x ∈ l') : l.Perm l' := by
  refine List.perm_iff_count.2 fun a => ?_
  rw [h.count, h'.count]
  by_cases ha : a ∈ l
  · rw [if_pos ha, if_pos ((hm a).1 ha)]
  · rw [if_neg ha, if_neg fun x => ha ((hm a).2 x)]
theorem nzl_nodup (h : ∀ i j, i < 86 → j < 86 → f i = f j → f i ≠ 0 → i = j) {ix : List Nat} (hn : ix.Nodup) (hm : ∀ i ∈ ix, i < 86 ∧ f i ≠ 0) : (ix.map fun i => ((f i : Nat) : Int)).Nodup := by
  refine List.pairwise_map.2 (List.Pairwise.imp_of_mem (fun {a b} ha hb hne => ?_) hn)
  intro e
  obtain ⟨h1, h2⟩ := hm a ha
  exact hne (h a b h1 (hm b hb).1 (by omega) h2)
set_option maxHeartbeats 2000000 in
theorem sectors_yes (ho : Calls Tryz.prog 44 #[.pointer (some ⟨p, 0, none⟩), .int .i64 nn] w (OpenR w p nn y)) (h : Sto w0 w p d O N s X q m) (hm : Mid N G (view X m) y f) (hc : Cont (view X m) f C) :
    Calls Tryz.prog 23 #[.pointer (some ⟨p, 0, none⟩), .int .i64 nn] w (SecR w f) := by
  have HO := Lib.hid ho
  have HS := Lib.hid h
  have HM := Lib.hid hm
  have HC := Lib.hid hc
  clear ho h hm hc
  go_enter Tryz.func23, Tryz.ntmps23
  go_wp2_with fail
  refine HO.out.mono ?_
  rintro e w1 ⟨bf, rfl, hf, hbf, hb⟩
  have HRD : Hid (Rd w0 w1 p d N q bf nn O s X m G y f C) := ⟨HS.out.below hb, hf, HM.out, HC.out⟩
  have HB1 := Lib.hid hb
  clear hf hb
  obtain ⟨b0, b1, b2⟩ := D.box1 w1 (Obj.cells #[.slice none 0 0] 54)
  have HI : Hid (SI w1 f (fun _ => False) [w1.heap.size] (w1.alloc (Obj.cells #[.slice none 0 0] 54))) :=
    ⟨b1, .slice none 0 0, [], b0, ⟨rfl, .inl ⟨rfl, rfl⟩⟩, List.nodup_nil, fun i => by simp, fun b => by simp [Value.ownBlock]⟩
  have hrd := HRD.out.below b1
  have HW := Lib.hid (walk_all (sec_vis HRD.out) (fun i hi => hi) HI.out hrd.fil (fun i hi => by
      have := hrd.fil.ptr hi
      rw [F.cell_in hrd.fil (7 + i), HM.out.rep.top i hi] at this
      exact this) (by have := HRD.out.fil.lt; simp; omega) (by simp))
  have HBX := Lib.hid b1
  clear hrd b0 b1 b2
  go_upto_region 5 with fail
  generalize w1.alloc (Obj.cells #[.slice none 0 0] 54) = W at *
  go_wp2_with fail
  refine HW.out.mono ?_
  rintro e w2 ⟨rfl, S', hI, hrow, hc, hs⟩
  obtain ⟨v, ix, hbx, hown, hnd, hmem, hS⟩ := hI.lst
  have hmem2 : ∀ i, i ∈ ix ↔ i < 86 ∧ f i ≠ 0 := fun i => by
    rw [hmem]
    exact ⟨fun ⟨a, _, c⟩ => ⟨a, c⟩, fun ⟨a, c⟩ => ⟨a, dtop_all a, c⟩⟩
  have hll : ix.length ≤ 86 := ix_len hnd fun i hi => ((hmem2 i).1 hi).1
  have hnl := nzl_nodup HM.out.inj hnd fun i hi => (hmem2 i).1 hi
  have HPM : Hid ((ix.map fun i => ((f i : Nat) : Int)).Perm (nzl f)) := (perm_of hnd (nzi_nodup f) fun i => by rw [hmem2, mem_nzi]).map _
  have c0 : w2.cell? ⟨w1.heap.size, 0, none⟩ = some v := cell_of_row _ _ 0 _ _ _ hbx
  have HB2 := Lib.hid hI.bel
  have hw12 := hI.bel.size
  have hbl : w1.heap.size < w2.heap.size := (Array.getElem?_eq_some_iff.1 hbx).1
  have HSO := Lib.hid (sortI_any hown (by rw [List.length_map]; omega))
  have HLT := Lib.hid (srtI_lt hnl)
  have HLL : Hid ((srtI (ix.map fun i => ((f i : Nat) : Int))).length ≤ 86) := by show _ ≤ _; rw [(srtI_perm _).length_eq, List.length_map]; exact hll
  have HPM2 := Lib.hid ((srtI_perm (ix.map fun i => ((f i : Nat) : Int))).trans HPM.out)
  obtain ⟨uA, un, uc, hv⟩ : ∃ A n c, v = .slice A n c := by
    rcases hown.2 with ⟨e, _⟩ | ⟨g, cap, cur, e, _⟩
    · exact ⟨_, _, _, e⟩
    · exact ⟨_, _, _, e⟩
  clear hI hrow hc hs hown hnd hmem hS hmem2 hll hnl HPM
  generalize srtI (ix.map fun i => ((f i : Nat) : Int)) = L at *
  subst hv
  go_wp2_with fail
  refine HSO.out.mono ?_
  rintro e w3 ⟨rfl, hown3, hb3⟩
  have c1 : w3.cell? ⟨w1.heap.size, 0, none⟩ = some (.slice uA un uc) := (hb3.cell (p := ⟨w1.heap.size, 0, none⟩) (by show w1.heap.size < w1.heap.size + 1; omega)).trans c0
  have HB3 := Lib.hid (HB2.out.trans (hb3.mono (Nat.le_succ _)))
  have HCO := Lib.hid (compactI_any hown3 HLT.out (by have := HLL.out; omega))
  clear hown3 hb3 c0 hbx
  go_wp2_with fail
  refine HCO.out.mono ?_
  rintro e w4 ⟨⟨A, c, rfl, hints⟩, hb4⟩
  have HIN := Lib.hid hints
  have HB4 := Lib.hid (HB1.out.trans ((HB3.out.trans (hb4.mono (Nat.le_succ _))).mono HB1.out.size))
  clear hints hb4 c1
  go_wp2_with fail
  go_ret2
  exact ⟨A, c, L, rfl, HIN.out, HLT.out, HPM2.out, HB4.out⟩
end
end Go.Proofs.YtijbgdihnjnllaaGreat.V
