/- copyholdref11.Routes, walked. -/
import Derived.Test.YtolooiaeoloimaaSmall
namespace Go.Proofs.Ytolooiaeoloimaa
open Go.RowKit
set_option linter.unusedVariables false

theorem Try.info22 : (Try.prog.info? 22).map (fun i => (i.zero, i.size, i.bytes)) = some (some (.slice none 0 0), 1, 24) := by kernel_rfl
/-- A row of rows of numbers, all of the call's own. -/
def Rws (base : Nat) (w : World) (v : Value) (ls : List (List Int)) : Prop :=
  ∃ vs : List Value, vs.length = ls.length ∧ w.ownsRow base 22 1 v vs.length vs ∧ ∀ (j : Nat) (l : List Int), ls[j]? = some l → ∃ g : Nat, vs[j]? = some (.slice (some ⟨g, 0, none⟩) l.length l.length) ∧ w.heap[g]? = some (.cells (l.map iv).toArray 3 (0, 0)) ∧ l.length ≤ 1000000
theorem rws_new (w : World) : Rws w.heap.size (w.alloc (.cells #[] 22)) (.slice (some ⟨w.heap.size, 0, none⟩) 0 0) [] :=
  ⟨[], rfl, World.ownsRow_made (e := 22) (size := 1) (base := w.heap.size) w #[] 0 (Nat.le_refl _) (by decide) (by rfl), fun j l h => by simp at h⟩
theorem Rws.app {base p n : Nat} {w : World} {v : Value} {ls : List (List Int)} {C : Array Value} (l : List Int) (h : Rws base w v ls) (hC : C = (l.map iv).toArray) (hn : n = l.length) (hl : n ≤ 1000) (hp : p = w.heap.size + 1) (hls : ls.length ≤ 1000) (hbase : base ≤ w.heap.size) :
    ∃ v' w', (Builtin.append_ #[26, 26] 26 #[v, .slice (some ⟨p, 0, none⟩) 1 1]).run Try.prog ((w.alloc (.cells C 3)).alloc (.cells #[.slice (some ⟨w.heap.size, 0, none⟩) n n] 22)) = .ok v' w' ∧ Rws base w' v' (ls ++ [l]) ∧ Below base w w' := by
  subst hC hn hp
  obtain ⟨vs, hvl, hown, hrow⟩ := h
  obtain ⟨i0, hi, hz0, hz1, hz2⟩ := info_parts Try.info22
  have hs1 : (w.alloc (.cells (l.map iv).toArray 3)).heap.size = w.heap.size + 1 := by simp
  obtain ⟨v', w', hr, h2, h3, _⟩ := run_append_own (P := Try.prog) ((w.alloc (.cells (l.map iv).toArray 3)).alloc (.cells #[.slice (some ⟨w.heap.size, 0, none⟩) l.length l.length] 22)) base 26 26 22 i0 _ 1 24 Try.underlying26 hi hz0 hz1 hz2 rfl (by decide) v vs.length vs ((hown.alloc _).alloc _) ⟨w.heap.size + 1, 0, none⟩ 1 1 [.slice (some ⟨w.heap.size, 0, none⟩) l.length l.length] (by simp)
    (fun j u hu => by
      match j, hu with
      | 0, hu =>
        simp only [List.getElem?_cons_zero, Option.some.injEq] at hu
        subst hu
        rw [Addr.add_lit, ← hs1, World.cell?_alloc_mark]
        rfl
      | j + 1, hu => simp at hu) (fun u hu => by simp only [List.mem_singleton] at hu; subst hu; rfl) (by unfold maxLen; omega) (by omega) (by simp; omega)
  have hne : ∀ g cs, w.heap[g]? = some (.cells cs 3 (0, 0)) → some g ≠ v.ownBlock := fun g cs hg e => by
    rcases hown.2 with ⟨rfl, _⟩ | ⟨g', cap, cur, rfl, _, hh, _⟩
    · cases e
    · cases e
      rw [hh] at hg
      cases hg
  have hnew : some w.heap.size ≠ v.ownBlock := fun e => by
    have := (hown.lt w.heap.size e.symm).2
    omega
  refine ⟨v', w', hr, ⟨vs ++ [.slice (some ⟨w.heap.size, 0, none⟩) l.length l.length], by simp [hvl], by simpa using h2, fun j m hj => ?_⟩, ?_⟩
  · by_cases hjl : j < ls.length
    · rw [List.getElem?_append_left hjl] at hj
      obtain ⟨g, g1, g2, g3⟩ := hrow j m hj
      have hg := (Array.getElem?_eq_some_iff.1 g2).1
      refine ⟨g, by rw [List.getElem?_append_left (by omega)]; exact g1, ?_, g3⟩
      rw [h3.block g (by simp; omega) (hne g _ g2), Below.heap_alloc _ _ _ (by simp; omega), Below.heap_alloc _ _ _ hg]
      exact g2
    · obtain rfl : j = ls.length := by
        have := (List.getElem?_eq_some_iff.1 hj).1
        simp at this
        omega
      rw [List.getElem?_append_right (Nat.le_refl _), Nat.sub_self] at hj
      simp only [List.getElem?_cons_zero, Option.some.injEq] at hj
      subst hj
      refine ⟨w.heap.size, by rw [← hvl, List.getElem?_append_right (Nat.le_refl _), Nat.sub_self]; rfl, ?_, by omega⟩
      rw [h3.block w.heap.size (by simp; omega) hnew, Below.heap_alloc _ _ _ (by simp)]
      exact heap_alloc_new w _
  · exact (((Below.refl base w).alloc hbase _).alloc (by simp; omega) _).grown h3 (by simp; omega) fun j hj => (hown.lt j hj).1
/-- One of the rows. -/
theorem Rws.get {base : Nat} {w : World} {v : Value} {ls : List (List Int)} (h : Rws base w v ls) {j : Nat} {l : List Int} (hj : ls[j]? = some l) :
    ∃ b cap g, v = .slice (some ⟨b, 0, none⟩) ls.length cap ∧ b < w.heap.size ∧ w.cell? ⟨b, j, none⟩ = some (.slice (some ⟨g, 0, none⟩) l.length l.length) ∧ Ints w w.heap.size (some ⟨g, 0, none⟩) l.length l.length l := by
  obtain ⟨vs, hvl, hown, hrow⟩ := h
  obtain ⟨g, g1, g2, g3⟩ := hrow j l hj
  have hjl : j < ls.length := (List.getElem?_eq_some_iff.1 hj).1
  rcases hown.2 with ⟨rfl, h0⟩ | ⟨b, cap, cur, rfl, hg, hh, hn, hm, hs, ht⟩
  · omega
  · refine ⟨b, cap, g, by rw [hvl], (Array.getElem?_eq_some_iff.1 hh).1, ?_, rfl, Nat.le_refl _, by unfold maxLen; omega, fun _ => ⟨g, 0, rfl, (Array.getElem?_eq_some_iff.1 g2).1, fun i hi => ?_⟩⟩
    · rw [cell_in hh]
      have e : cur.toList[j]? = vs[j]? := by
        conv => rhs; rw [← ht]
        rw [List.getElem?_take, if_pos (by omega)]
      rw [← Array.getElem?_toList, e, g1]
    · rw [Nat.zero_add, cell_in g2]
      simp [hi, iv]
theorem Rws.size {base : Nat} {w : World} {v : Value} {ls : List (List Int)} (h : Rws base w v ls) : ∃ A cap, v = .slice A ls.length cap ∧ ls.length ≤ cap ∧ cap ≤ maxLen := by
  obtain ⟨vs, hvl, hown, hrow⟩ := h
  rcases hown.2 with ⟨rfl, h0⟩ | ⟨b, cap, cur, rfl, hg, hh, hn, hm, hs, ht⟩
  · exact ⟨none, 0, by rw [← hvl, h0], by omega, by decide⟩
  · exact ⟨_, cap, by rw [hvl], by omega, hm⟩
def GivesRows (w : World) (ls : List (List Int)) (e : Ending) (w' : World) : Prop := ∃ v, e = .returned v ∧ Rws w.heap.size w' v ls ∧ Below w.heap.size w w'
set_option maxRecDepth 20000 in
set_option maxHeartbeats 2000000 in
theorem routes_any (w : World) : Calls Try.prog 9 #[] w (GivesRows w (routes 76)) := by
  go_enter Try.func9, Try.ntmps9
  go_wp2_with fail
  go_loopw [1, 2] (fun v i wr => ∃ k : Nat, ∃ v0 : Value, k ≤ 4 ∧ i = .int .i64 k ∧ v = v0 ∧ Hid (Rws w.heap.size wr v0 (routes k)) ∧ Hid (Below w.heap.size w wr)) (fun _ i _ => 4 - (intOf i).toNat)
  case atStart => exact ⟨0, _, Nat.zero_le _, rfl, rfl, rws_new w, box_below _ _⟩
  case round =>
    obtain ⟨k, v, hk, rfl, rfl, HR, HB⟩ := hrel
    by_cases hlt : k < 4
    · have hs := routes_len k
      obtain ⟨v', w', hr, hR, hb⟩ := HR.out.app (C := #[.int .i64 k]) (n := 1) [(k : Int)] rfl rfl (by omega) rfl (by omega) HB.out.size
      rw [← route_one hlt, ← routes_succ] at hR
      have HR2 := Lib.hid hr
      have HO := Lib.hid hR
      have HB2 := Lib.hid (HB.out.trans hb)
      clear hr hR hb hs
      go_wp2_with (at_builtin; refine Lib.wpList_append_run _ rfl _ _ _ _ rfl _ _ rfl rfl _ _ HR2.out ?_)
      go_roundw
      case rel => exact ⟨k + 1, v', by omega, by go_num, rfl, HO, HB2⟩
      case measure => simp [intOf]; omega
    · obtain rfl : k = 4 := by omega
      rw [show ((4 : Nat) : Int) = 4 from rfl]
      go_wp2_with fail
      go_loopw [1, 3] (fun v i wr => ∃ k : Nat, ∃ v0 : Value, k ≤ 8 ∧ i = .int .i64 k ∧ v = v0 ∧ Hid (Rws w.heap.size wr v0 (routes (4 + k))) ∧ Hid (Below w.heap.size w wr)) (fun _ i _ => 8 - (intOf i).toNat)
      case atStart => exact ⟨0, _, Nat.zero_le _, rfl, rfl, HR, HB⟩
      case round =>
        clear HR HB
        obtain ⟨k, v, hk, rfl, rfl, HR, HB⟩ := hrel
        by_cases hlt : k < 8
        · have hs := routes_len (4 + k)
          obtain ⟨v', w', hr, hR, hb⟩ := HR.out.app (C := #[.int .i64 4, .int .i64 k]) (n := 2) [4, (k : Int)] rfl rfl (by omega) rfl (by omega) HB.out.size
          rw [← route_two hlt, ← routes_succ] at hR
          have HR2 := Lib.hid hr
          have HO := Lib.hid hR
          have HB2 := Lib.hid (HB.out.trans hb)
          clear hr hR hb hs
          go_wp2_with (at_builtin; refine Lib.wpList_append_run _ rfl _ _ _ _ rfl _ _ rfl rfl _ _ HR2.out ?_)
          go_roundw
          case rel => exact ⟨k + 1, v', by omega, by go_num, rfl, HO, HB2⟩
          case measure => simp [intOf]; omega
        · obtain rfl : k = 8 := by omega
          rw [show ((8 : Nat) : Int) = 8 from rfl]
          go_wp2_with fail
          go_loopw [1, 4] (fun v i wr => ∃ k : Nat, ∃ v0 : Value, k ≤ 8 ∧ i = .int .i64 k ∧ v = v0 ∧ Hid (Rws w.heap.size wr v0 (routes (12 + 8 * k))) ∧ Hid (Below w.heap.size w wr)) (fun _ i _ => 8 - (intOf i).toNat)
          case atStart => exact ⟨0, _, Nat.zero_le _, rfl, rfl, HR, HB⟩
          case round =>
            clear HR HB
            obtain ⟨k, v, hk, rfl, rfl, HR, HB⟩ := hrel
            by_cases hlt : k < 8
            · have hk1 : decide ((k : Int) < 8) = true := by simp; omega
              go_wp2_with fail
              go_loopw [1, 5] (fun v i wr => ∃ j : Nat, ∃ v0 : Value, j ≤ 8 ∧ i = .int .i64 j ∧ v = v0 ∧ Hid (Rws w.heap.size wr v0 (routes (12 + 8 * k + j))) ∧ Hid (Below w.heap.size w wr)) (fun _ i _ => 8 - (intOf i).toNat)
              case atStart => exact ⟨0, _, Nat.zero_le _, rfl, rfl, HR, HB⟩
              case round =>
                clear HR HB
                obtain ⟨j, v, hj, rfl, rfl, HR, HB⟩ := hrel
                by_cases hlt2 : j < 8
                · have hs := routes_len (12 + 8 * k + j)
                  obtain ⟨v', w', hr, hR, hb⟩ := HR.out.app (C := #[.int .i64 5, .int .i64 k, .int .i64 j]) (n := 3) [5, (k : Int), (j : Int)] rfl rfl (by omega) rfl (by omega) HB.out.size
                  rw [← route_three hlt hlt2, ← routes_succ] at hR
                  have HR2 := Lib.hid hr
                  have HO := Lib.hid hR
                  have HB2 := Lib.hid (HB.out.trans hb)
                  clear hr hR hb hs
                  go_wp2_with (at_builtin; refine Lib.wpList_append_run _ rfl _ _ _ _ rfl _ _ rfl rfl _ _ HR2.out ?_)
                  go_roundw
                  case rel => exact ⟨j + 1, v', by omega, by go_num, rfl, HO, HB2⟩
                  case measure => simp [intOf]; omega
                · obtain rfl : j = 8 := by omega
                  go_wp2_with fail
                  go_roundw
                  case rel => exact ⟨k + 1, _, by omega, by go_num, rfl, HR, HB⟩
                  case measure => simp [intOf]; omega
            · obtain rfl : k = 8 := by omega
              go_wp2_with fail
              go_ret
              exact ⟨_, rfl, HR.out, HB.out⟩
end Go.Proofs.Ytolooiaeoloimaa
