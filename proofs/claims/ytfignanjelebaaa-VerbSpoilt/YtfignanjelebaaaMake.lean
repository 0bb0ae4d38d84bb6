/- field.spread, slices.Grow at nil, slices.Concat of byte slices, walked. -/
import Derived.Test.YtfignanjelebaaaWords
import Derived.Lib.AppendZeros
import Derived.Lib.SliceRun
import Derived.Laws.MakeOwn
import Derived.OwnWalk
namespace Go.Proofs.Ytfignanjelebaaa
open Go.RowKit
set_option linter.unusedVariables false

theorem heap_set {w : World} {g : Nat} {t : TypeId} {cs : Array Value} (h : w.heap[g]? = some (.cells cs t (0, 0))) (i : Nat) (u : Value) : (w.setCell ⟨g, i, none⟩ u).heap[g]? = some (.cells (cs.setIfInBounds i u) t (0, 0)) := by
  simp [World.setCell, Array.getElem?_modify, h]
theorem cell_in {w : World} {g : Nat} {t : TypeId} {cs : Array Value} (h : w.heap[g]? = some (.cells cs t (0, 0))) (i : Nat) : w.cell? ⟨g, i, none⟩ = cs[i]? := cell_of_row w g i cs t (0, 0) h
theorem free_in {w : World} {g : Nat} {t : TypeId} {cs : Array Value} (h : w.heap[g]? = some (.cells cs t (0, 0))) (i : Nat) : w.frozen? ⟨g, i, none⟩ = false := by
  simp [World.frozen?, h]
def bv (b : UInt8) : Value := .int .u8 (b.toNat : Int)
/-- The row that spread fills: m bytes are laid, the rest is 0. -/
def spr (k n m : Nat) : Array Value := ((lit m n).map bv ++ List.replicate (k - m) (Value.int .u8 0)).toArray
theorem spr_size {k n m : Nat} (h : m ≤ k) : (spr k n m).size = k := by simp [spr, lit_length]; omega
theorem spr_set {k n m : Nat} (h : m < k) : (spr k n m).setIfInBounds m (bv (UInt8.ofNat (n / 256 ^ m))) = spr k n (m + 1) := by
  obtain ⟨d, rfl⟩ : ∃ d, k = m + 1 + d := ⟨k - m - 1, by omega⟩
  have e1 : m + 1 + d - m = d + 1 := by omega
  have e2 : m + 1 + d - (m + 1) = d := by omega
  have hl := lit_length m n
  apply Array.ext'
  simp only [spr, e1, e2, List.replicate_succ, ← lit_div, List.map_append, Array.toList_setIfInBounds]
  rw [List.set_append_right _ _ (by simp [hl])]
  simp [hl]

theorem Try.info5 : (Try.prog.info? 5).map (fun i => (i.zero, i.size, i.bytes)) = some (some (.int .u8 0), 1, 1) := by kernel_rfl
theorem make_run {n : Nat} (k : Nat) (hk : k ≤ 4) (w : World) : (Instr.makeSlice 24 (.int .i64 k) (.int .i64 k)).run Try.prog w = .ok (.slice (some ⟨w.heap.size, 0, none⟩) k k) (w.alloc (.cells (spr k n 0) 5)) := by
  obtain ⟨i0, hi, hz0, hz1, hz2⟩ := info_parts Try.info5
  have hr := run_make (P := Try.prog) w 24 5 i0 _ Try.underlying24 hi hz0 .i64 .i64 k k (by omega) (by omega) (by rw [hz2]; omega) (by omega)
  rw [hr, hz1]
  have e : madeCells (Value.int .u8 0).cells ((k : Int).toNat * 1) = spr k n 0 := by
    apply Array.ext'
    have h1 : (Value.int .u8 0).cells = #[Value.int .u8 0] := rfl
    rw [h1, toList_madeCells_one]
    simp [spr, lit]
  rw [e]
  simp
theorem shr_byte (n m : Nat) : (n : Int) / 2 ^ (8 * m) % 256 = ((UInt8.ofNat (n / 256 ^ m)).toNat : Int) := by
  have e : (2 : Nat) ^ (8 * m) = 256 ^ m := by rw [Nat.pow_mul]
  rw [UInt8.toNat_ofNat', ← e]
  simp
set_option maxHeartbeats 1000000 in
theorem spread_any (n k : Nat) (w : World) (hn : n < 4294967296) (hk : k ≤ 4) :
    Calls Try.prog 63 #[.int .i64 n, .int .i64 k] w fun e w' => e = .returned (.slice (some ⟨w.heap.size, 0, none⟩) k k) ∧ w'.heap[w.heap.size]? = some (.cells (spr k n k) 5 (0, 0)) ∧ Below w.heap.size w w' := by
  have hmk := make_run (n := n) k hk w
  go_enter Try.func63, Try.ntmps63
  go_wp2
  clear hmk
  go_loopw [10] (fun i wr => ∃ m : Nat, m ≤ k ∧ i = .int .i64 m ∧ wr.heap[w.heap.size]? = some (.cells (spr k n m) 5 (0, 0)) ∧ Below w.heap.size w wr) (fun i _ => k - (intOf i).toNat)
  case atStart => exact ⟨0, Nat.zero_le _, rfl, heap_alloc_new w _, (Below.refl _ _).alloc (Nat.le_refl _) _⟩
  case round =>
    obtain ⟨m, hm, rfl, hh, hb⟩ := hrel
    have HH := Lib.hid hh
    have hc := cell_in hh m
    have hf := free_in hh m
    clear hh
    by_cases hlt : m < k
    · obtain ⟨v, hv⟩ : ∃ v, (spr k n m)[m]? = some v := ⟨_, Array.getElem?_eq_getElem (by rw [spr_size hm]; exact hlt)⟩
      rw [hv] at hc
      clear hv
      go_wp2
      go_roundw
      case rel =>
        refine ⟨m + 1, by omega, by go_num, ?_, hb.setCell (p := ⟨w.heap.size, m, none⟩) (Nat.le_refl _) _⟩
        rw [heap_set HH.out, ← spr_set hlt, shr_byte]
        rfl
      case measure => simp [intOf]; omega
    · obtain rfl : m = k := by omega
      go_wp2
      go_ret
      exact ⟨rfl, HH.out, hb⟩

/-- A slice of the call's own, that holds the bytes l; of what was there nothing has turned. -/
structure Mine (w w' : World) (v : Value) (l : List UInt8) : Prop where
  own : w'.ownsRow w.heap.size 5 1 v l.length (l.map bv)
  bel : Below w.heap.size w w'
def GivesMine (w : World) (l : List UInt8) (e : Ending) (w' : World) : Prop := ∃ v, e = .returned v ∧ Mine w w' v l
/-- A slice that has room for t bytes, or t is so small that it may grow. -/
def Room (v : Value) (t : Nat) : Prop := t ≤ 140737488355328 ∨ ∃ g n cap, v = .slice (some ⟨g, 0, none⟩) n cap ∧ t ≤ cap
def GivesRoom (w : World) (t : Nat) (e : Ending) (w' : World) : Prop := ∃ v, e = .returned v ∧ Mine w w' v [] ∧ Room v t

theorem grow_run (n : Nat) (hn : n ≤ 281474976710656) (h0 : 0 < n) (w : World) : (Builtin.append_ #[24, 3] 24 #[.slice none 0 0, .int .i64 (n : Int)]).run Try.prog w =
    .ok (.slice (some ⟨w.heap.size, 0, none⟩) n (grownCap w n 0 5)) (w.drew.alloc (.cells (Builtin.zeroCells (Value.int .u8 0).cells n ++ Builtin.zeroCells (Value.int .u8 0).cells (grownCap w n 0 5 - n)) 5)) := by
  obtain ⟨i0, hi, hz0, hz1, hz2⟩ := info_parts Try.info5
  exact Lib.run_append_nil_zeros w 24 3 24 5 i0 _ .i64 .i64 Try.underlying24 Try.underlying3 hi hz0 n h0 (by omega) (by omega) (by rw [hz2]; omega)
set_option maxHeartbeats 1000000 in
set_option maxRecDepth 100000 in
theorem grow_nil (n : Nat) (w : World) (hn : n ≤ 281474976710656) : Calls Try.prog 77 #[.slice none 0 0, .int .i64 n] w (GivesRoom w n) := by
  by_cases h0 : n = 0
  · subst h0
    go_enter Try.func77, Try.ntmps77
    go_wp2
    go_ret
    exact ⟨_, rfl, ⟨World.ownsRow_nil _ _ _ _, Below.refl _ _⟩, .inl (by omega)⟩
  · have h1 : 0 < n := by omega
    have hr := Lib.hid (grow_run n hn h1 w)
    have hcap := grownCap_ge w n 0 5
    have hm := grownCap_le_maxLen w n 0 5 (by unfold maxLen; omega)
    go_enter Try.func77, Try.ntmps77
    go_wp2_with (at_builtin; refine Lib.wpList_append_run _ rfl _ _ _ _ rfl _ _ rfl rfl _ _ hr.out ?_)
    go_ret
    refine ⟨_, rfl, ⟨?_, ((Below.refl _ w).alloc (Nat.le_refl _) _).drew⟩, .inr ⟨_, _, _, rfl, hcap⟩⟩
    refine World.ownsRow_made (e := 5) (size := 1) (base := w.heap.size) w _ (grownCap w n 0 5) (Nat.le_refl _) hm ?_
    rw [Array.size_append, size_zeroCells, size_zeroCells]
    simp
    omega

/-- A value that is a slice which holds the bytes l. -/
def Holds (w : World) (B : Nat) (v : Value) (l : List UInt8) : Prop := ∃ A n c, v = .slice A n c ∧ Bts w B A n c l
theorem Holds.below {w w' : World} {B : Nat} {v : Value} {l : List UInt8} (h : Holds w B v l) (hb : Below B w w') : Holds w' B v l := by
  obtain ⟨A, n, c, hv, h⟩ := h
  exact ⟨A, n, c, hv, h.below hb⟩
theorem Holds.more {w : World} {B B' : Nat} {v : Value} {l : List UInt8} (h : Holds w B v l) (hB : B ≤ B') : Holds w B' v l := by
  obtain ⟨A, n, c, hv, h⟩ := h
  exact ⟨A, n, c, hv, h.more hB⟩
theorem own_holds {w : World} {base : Nat} {v : Value} {l : List UInt8} (h : w.ownsRow base 5 1 v l.length (l.map bv)) : Holds w w.heap.size v l := by
  rcases h.2 with ⟨rfl, h0⟩ | ⟨g, cap, cur, rfl, hg, hh, hn, hm, hs, ht⟩
  · have : l = [] := List.length_eq_zero_iff.1 h0
    subst this
    exact ⟨_, _, _, rfl, Bts.nil_ _ _⟩
  · refine ⟨_, _, _, rfl, rfl, hn, hm, (fun h => by cases h), fun h0 => ⟨g, 0, rfl, (Array.getElem?_eq_some_iff.1 hh).1, fun j hj => ?_⟩⟩
    rw [Nat.zero_add, cell_in hh]
    have e : cur.toList[j]? = (l.map bv)[j]? := by
      rw [← ht, List.getElem?_take, if_pos (by omega)]
    rw [← Array.getElem?_toList, e]
    simp [hj, bv]
theorem app_run {w : World} {base B n c : Nat} {v : Value} {A : Option Addr} {l l' : List UInt8} (ty : TypeId) (hown : w.ownsRow base 5 1 v l.length (l.map bv)) (h : Bts w B A n c l') (hl : l.length + l'.length ≤ 140737488355328) (hbase : base ≤ w.heap.size) :
    ∃ v' w', (Builtin.append_ #[24, 24] ty #[v, .slice A n c]).run Try.prog w = .ok v' w' ∧ w'.ownsRow base 5 1 v' (l ++ l').length ((l ++ l').map bv) ∧ w.grownBy w' v.ownBlock := by
  obtain ⟨i0, hi, hz0, hz1, hz2⟩ := info_parts Try.info5
  obtain rfl := h.len
  have h1 : ∀ u ∈ l'.map bv, u.oneCell' = true := by
    intro u hu
    obtain ⟨b, _, rfl⟩ := List.mem_map.1 hu
    rfl
  rcases A with _ | ad
  · have hc := h.nil rfl
    subst hc
    have h0 : l' = [] := List.length_eq_zero_iff.1 (by have := h.cap; omega)
    subst h0
    refine ⟨v, w, ?_, by simpa using hown, ⟨rfl, rfl, rfl, Nat.le_refl _, fun _ _ _ => rfl⟩⟩
    rcases hown.2 with ⟨rfl, h0⟩ | ⟨g, cap, cur, rfl, _, _, hnc, _⟩
    · simp [Builtin.append_, run_underlying Try.underlying24, sizeOf, typeInfo, hi, Builtin.lenOf, Builtin.firstCells]
    · simp [Builtin.append_, run_underlying Try.underlying24, sizeOf, typeInfo, hi, Builtin.lenOf, Builtin.firstCells, hnc, storeCells]
  · obtain ⟨v', w', hr, h2, h3, _⟩ := run_append_own (P := Try.prog) w base 24 ty 5 i0 _ 1 1 Try.underlying24 hi hz0 hz1 hz2 rfl (by decide) v l.length (l.map bv) hown ad l'.length c (l'.map bv) (by simp)
      (fun j u hu => by
        have hj : j < l'.length := by
          have := (List.getElem?_eq_some_iff.1 hu).1
          simpa using this
        obtain ⟨b, off, e, hb, hcell⟩ := h.at_ (by omega)
        cases e
        rw [Addr.add_lit, hcell j hj, ← hu]
        simp [hj, bv]) h1 (by unfold maxLen; omega) (by omega) hbase
    exact ⟨v', w', hr, by simpa using h2, h3⟩

/-- append where there is room: in place, however long. -/
theorem app_room {w : World} {base B n c g cap m : Nat} {A : Option Addr} {l l' : List UInt8} (ty : TypeId) (hown : w.ownsRow base 5 1 (.slice (some ⟨g, 0, none⟩) m cap) l.length (l.map bv)) (h : Bts w B A n c l') (hl : l.length + l'.length ≤ cap) :
    ∃ w', (Builtin.append_ #[24, 24] ty #[.slice (some ⟨g, 0, none⟩) m cap, .slice A n c]).run Try.prog w = .ok (.slice (some ⟨g, 0, none⟩) (l ++ l').length cap) w' ∧ w'.ownsRow base 5 1 (.slice (some ⟨g, 0, none⟩) (l ++ l').length cap) (l ++ l').length ((l ++ l').map bv) ∧ w.grownBy w' (some g) := by
  obtain ⟨i0, hi, hz0, hz1, hz2⟩ := info_parts Try.info5
  obtain rfl := h.len
  have h1 : ∀ u ∈ l'.map bv, u.oneCell' = true := by
    intro u hu
    obtain ⟨b, _, rfl⟩ := List.mem_map.1 hu
    rfl
  rcases hown.2 with ⟨e, _⟩ | ⟨g', cap', cur, e, hbg, hg, hnc, hcm, hcs, htake⟩
  · cases e
  cases e
  rcases A with _ | ad
  · have hc := h.nil rfl
    subst hc
    have h0 : l' = [] := List.length_eq_zero_iff.1 (by have := h.cap; omega)
    subst h0
    refine ⟨w, ?_, by simpa using hown, ⟨rfl, rfl, rfl, Nat.le_refl _, fun _ _ _ => rfl⟩⟩
    simp [Builtin.append_, run_underlying Try.underlying24, sizeOf, typeInfo, hi, Builtin.lenOf, Builtin.firstCells, hnc, storeCells]
  · have hr := run_append_room (P := Try.prog) w 24 ty 5 i0 Try.underlying24 hi g l.length cap cur hg ad l'.length c (l'.map bv) (by rw [hz1]; simp)
      (fun j u hu => by
        have hj : j < l'.length := by
          have := (List.getElem?_eq_some_iff.1 hu).1
          simpa using this
        obtain ⟨b, off, e, hb, hcell⟩ := h.at_ (by omega)
        cases e
        rw [Addr.add_lit, hcell j hj, ← hu]
        simp [hj, bv]) h1 hl (by rw [hz1]; simp [hcs]; omega)
    rw [hz1] at hr
    have ha : (l ++ l').length = l.length + l'.length := List.length_append
    rw [ha]
    refine ⟨_, hr, ⟨by simp, .inr ⟨g, cap, _, rfl, hbg, setRow_heap w g cur _ 5 _ hg, hl, hcm, ?_, ?_⟩⟩, ⟨rfl, rfl, rfl, by simp, fun k _ hk => setRow_other w g k _ (fun e => hk (by simp [e]))⟩⟩
    · simp only [List.size_toArray, List.length_append, List.length_take, List.length_drop, Array.length_toList, List.length_map]
      omega
    · rw [htake]
      simp only [List.map_append]
      exact List.take_left' (by simp)
theorem app_any {w : World} {base B n c t : Nat} {v : Value} {A : Option Addr} {l l' : List UInt8} (ty : TypeId) (hown : w.ownsRow base 5 1 v l.length (l.map bv)) (h : Bts w B A n c l') (hr : Room v t) (hl : l.length + l'.length ≤ t) (hbase : base ≤ w.heap.size) :
    ∃ v' w', (Builtin.append_ #[24, 24] ty #[v, .slice A n c]).run Try.prog w = .ok v' w' ∧ w'.ownsRow base 5 1 v' (l ++ l').length ((l ++ l').map bv) ∧ w.grownBy w' v.ownBlock ∧ Room v' t := by
  rcases hr with hr | ⟨g, m, cap, rfl, hr⟩
  · obtain ⟨v', w', h1, h2, h3⟩ := app_run ty hown h (by omega) hbase
    exact ⟨v', w', h1, h2, h3, .inl hr⟩
  · obtain ⟨w', h1, h2, h3⟩ := app_room ty hown h (by omega)
    exact ⟨_, w', h1, h2, h3, .inr ⟨_, _, _, rfl, hr⟩⟩
/-- What the first k of the items hold together. -/
def cat (xs : List (Value × List UInt8)) (k : Nat) : List UInt8 := (xs.take k).flatMap (·.2)
theorem cat_succ {xs : List (Value × List UInt8)} {k : Nat} (h : k < xs.length) : cat xs (k + 1) = cat xs k ++ xs[k].2 := by
  unfold cat
  rw [List.take_succ_eq_append_getElem h]
  simp only [List.flatMap_append, List.flatMap_cons, List.flatMap_nil, List.append_nil]
theorem cat_le {xs : List (Value × List UInt8)} {k : Nat} (h : k ≤ xs.length) : (cat xs k).length ≤ (cat xs xs.length).length := by
  have h2 : cat xs xs.length = cat xs k ++ (xs.drop k).flatMap (·.2) := by
    unfold cat
    rw [List.take_length, ← List.flatMap_append, List.take_append_drop]
  rw [h2, List.length_append]
  omega

set_option maxHeartbeats 1000000 in
theorem concat_any (xs : List (Value × List UInt8)) (g c B : Nat) (w : World) (hg : g < w.heap.size) (hB : B ≤ w.heap.size) (hxs : xs.length ≤ 4)
    (hc : ∀ j (h : j < xs.length), w.cell? ⟨g, j, none⟩ = some xs[j].1) (hh : ∀ j (h : j < xs.length), Holds w B xs[j].1 xs[j].2) (hlen : (cat xs xs.length).length ≤ 281474976710656) :
    Calls Try.prog 62 #[.slice (some ⟨g, 0, none⟩) xs.length c] w (GivesMine w (cat xs xs.length)) := by
  have HC := Lib.hid hc
  have HH := Lib.hid hh
  clear hc hh
  go_enter Try.func62, Try.ntmps62
  go_wp2
  go_loop [3, 11] (fun s i => ∃ k : Nat, k ≤ xs.length ∧ i = .int .i64 k ∧ s = .int .i64 ((cat xs k).length : Nat)) (fun _ i => xs.length - (intOf i).toNat)
  case atStart => exact ⟨0, Nat.zero_le _, rfl, rfl⟩
  case round =>
    obtain ⟨k, hk, rfl, rfl⟩ := hrel
    have hle := cat_le hk
    by_cases hlt : k < xs.length
    · have hcx := HC.out k hlt
      obtain ⟨A, n, cc, hv, hB⟩ := HH.out k hlt
      rw [hv] at hcx
      have hs := cat_succ hlt
      have hle' := cat_le (k := k + 1) hlt
      have hl : (cat xs (k + 1)).length = (cat xs k).length + n := by rw [hs, List.length_append, hB.len]
      have HL := Lib.hid hl
      have hnn : (cat xs k).length + n ≤ 281474976710656 := by omega
      clear hl hs hv hle'
      go_wp2
      go_round
      case rel => exact ⟨k + 1, by omega, by go_num, by rw [HL.out]; go_num⟩
      case measure => simp [intOf]; omega
    · obtain rfl : k = xs.length := by omega
      clear hle
      go_wp2_with ((with_reducible refine (grow_nil _ _ hlen).mono ?_); rintro e w1 ⟨v, rfl, hm, hro⟩)
      go_loopw [6, 27] (fun x i wr => ∃ k : Nat, ∃ v, k ≤ xs.length ∧ i = .int .i64 k ∧ x = v ∧ Mine w wr v (cat xs k) ∧ Room v (cat xs xs.length).length) (fun _ i _ => xs.length - (intOf i).toNat)
      case atStart => exact ⟨0, v, Nat.zero_le _, rfl, rfl, hm, hro⟩
      case round =>
        obtain ⟨k, v, hk, rfl, rfl, hm, hro⟩ := hrel
        by_cases hlt : k < xs.length
        · have hcx := (hm.bel.cell (p := ⟨g, k, none⟩) hg).trans (HC.out k hlt)
          obtain ⟨A, n, cc, hv, hb⟩ := HH.out k hlt
          rw [hv] at hcx
          have hle := cat_le (k := k + 1) hlt
          have hs := cat_succ hlt
          have hl : (cat xs k).length + xs[k].2.length ≤ (cat xs xs.length).length := by rw [hs, List.length_append] at hle; omega
          obtain ⟨v', w', hr, ho, hgr, hro'⟩ := app_any 24 hm.own (hb.below (hm.bel.mono hB)) hro hl hm.bel.size
          rw [← hs] at ho
          have HR := Lib.hid hr
          clear hr hs hv hle hl
          go_wp2_with (at_builtin; refine Lib.wpList_append_run _ rfl _ _ _ _ rfl _ _ rfl rfl _ _ HR.out ?_)
          go_roundw
          case rel => exact ⟨k + 1, v', by omega, by go_num, rfl, ⟨ho, hm.bel.grown hgr hm.bel.size (fun j hj => (hm.own.lt j hj).1)⟩, hro'⟩
          case measure => simp [intOf]; omega
        · obtain rfl : k = xs.length := by omega
          go_wp2
          go_ret
          exact ⟨_, rfl, hm⟩
end Go.Proofs.Ytfignanjelebaaa
