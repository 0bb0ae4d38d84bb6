/- 'changes': all that would be others, in order, as a list of writes. -/
import Derived.Test.YtijbgdihnjnllaaGreatSNode
import Derived.OwnWalk
namespace Go.Proofs.YtijbgdihnjnllaaGreat
open Go.RowKit
set_option linter.unusedVariables false
set_option maxRecDepth 20000

/-- A write's two cells: its number, and the block of its bytes. -/
def pw (p : Wr × Nat) : List Value := [.int .i64 p.1.1, .slice (some ⟨p.2, 0, none⟩) 128 128]
theorem pw_len (p : Wr × Nat) : (pw p).length = 2 := rfl
/-- The listed writes in memory. -/
structure LstAt (base : Nat) (w : World) (v : Value) (ps : List (Wr × Nat)) : Prop where
  row : w.ownsRow base 87 2 v ps.length (ps.flatMap pw)
  dat : ∀ p ∈ ps, Own w p.2 p.1.2 ∧ p.1.2.length = 128 ∧ base ≤ p.2
theorem info34 : (Tryz.prog.info? 87).map (fun i => (i.zero, i.size, i.bytes)) = some (some (.agg #[.int .i64 0, .slice none 0 0]), 2, 32) := by kernel_rfl
theorem LstAt.wrs {base : Nat} {w : World} {v : Value} {ps : List (Wr × Nat)} (h : LstAt base w v ps) :
    ∃ A c, v = .slice A ps.length c ∧ Wrs w (fun q => base ≤ q ∧ q < w.heap.size) A ps.length c (ps.map (·.1)) := by
  rcases h.row.2 with ⟨rfl, h0⟩ | ⟨g, cap, cur, rfl, hg, hh, hn, hm, hs, ht⟩
  · obtain rfl : ps = [] := List.length_eq_zero_iff.1 h0
    exact ⟨none, 0, rfl, rfl, Nat.le_refl _, by unfold maxLen; omega, fun h => absurd h (by simp)⟩
  · refine ⟨_, _, rfl, by simp, hn, hm, fun h0 => ⟨g, 0, rfl, ⟨hg, (Array.getElem?_eq_some_iff.1 hh).1⟩, fun j x hj => ?_⟩⟩
    rw [List.getElem?_map] at hj
    cases hp : ps[j]? with
    | none => simp [hp] at hj
    | some p =>
      simp only [hp, Option.map_some, Option.some.injEq] at hj
      subst hj
      have hjl : j < ps.length := (List.getElem?_eq_some_iff.1 hp).1
      have hget : ∀ i, i < 2 → cur[j * 2 + i]? = (pw p)[i]? := fun i hi => by
        have : cur.toList[j * 2 + i]? = (ps.flatMap pw)[j * 2 + i]? := by
          rw [← ht, List.getElem?_take, if_pos (by omega)]
        rw [← Array.getElem?_toList, this, flat_get (fun x _ => pw_len x) hp hi]
      obtain ⟨h1, h2, h3⟩ := h.dat p (List.mem_of_getElem? hp)
      refine ⟨by rw [Nat.zero_add, cell_of hh]; exact hget 0 (by omega), _, _, _, by rw [Nat.zero_add, cell_of hh]; exact hget 1 (by omega), h1.bts h2 ⟨h3, h1.lt⟩⟩
theorem LstAt.ne {base : Nat} {w : World} {v : Value} {ps : List (Wr × Nat)} {D' : List UInt8} {b : Nat} (h : LstAt base w v ps) (hp : ps ≠ []) (ho : Own w b D') (hD : D'.length = 128) : v.ownBlock ≠ some b := by
  intro e
  rcases h.row.2 with ⟨rfl, h0⟩ | ⟨g, cap, cur, rfl, hg, hh, hn, hm, hs, ht⟩
  · cases e
  · cases e
    obtain ⟨t, ho⟩ := ho
    rw [hh] at ho
    simp only [Option.some.injEq, Obj.cells.injEq] at ho
    obtain ⟨p, r, rfl⟩ := List.exists_cons_of_ne_nil hp
    have h1 : cur.toList[0]? = some (.int .i64 p.1.1) := by
      have : cur.toList[0]? = ((p :: r).flatMap pw)[0]? := by rw [← ht, List.getElem?_take, if_pos (by simp)]
      rw [this]
      rfl
    rw [ho.1] at h1
    rw [Array.getElem?_toList, List.getElem?_toArray, bc_get (by omega)] at h1
    cases h1
theorem LstAt.below {base : Nat} {w w' : World} {v : Value} {ps : List (Wr × Nat)} (h : LstAt base w v ps) (hb : Below w.heap.size w w') : LstAt base w' v ps :=
  ⟨ownsRow_keep h.row fun b hb' => hb.block b (h.row.lt b hb').2, fun p hp => ⟨(h.dat p hp).1.below hb, (h.dat p hp).2⟩⟩
/-- One more. -/
theorem LstAt.app {base b : Nat} {w : World} {v : Value} {ps : List (Wr × Nat)} (h : LstAt base w v ps) (x : Wr) (hD : x.2.length = 128) (ho : Own w b x.2) (hb : base ≤ b) (hl : ps.length ≤ 24) (hbase : base ≤ w.heap.size) (hv : ps = [] → v.ownBlock ≠ some b) :
    ∃ v' w', (Builtin.append_ #[105, 105] 105 #[v, .slice (some ⟨w.heap.size, 0, none⟩) 1 1]).run Tryz.prog (w.alloc (.cells #[.int .i64 x.1, .slice (some ⟨b, 0, none⟩) 128 128] 87)) = .ok v' w' ∧ LstAt base w' v' (ps ++ [(x, b)]) ∧ Below base w w' := by
  obtain ⟨i0, hi, hz0, hz1, hz2⟩ := info_parts info34
  obtain ⟨v', w', hr, h2, h3, _⟩ := run_append_own (P := Tryz.prog) (w.alloc (.cells #[.int .i64 x.1, .slice (some ⟨b, 0, none⟩) 128 128] 87)) base 105 105 87 i0 _ 2 32 Tryz.underlying105 hi hz0 hz1 hz2 rfl (by decide) v ps.length (ps.flatMap pw) (h.row.alloc _) ⟨w.heap.size, 0, none⟩ 1 1 (pw (x, b)) (by rfl)
    (fun j u hu => by
      rw [Addr.add_lit, World.cell?_alloc_mark, Nat.zero_add]
      match j, hu with
      | 0, hu => exact hu
      | 1, hu => exact hu
      | j + 2, hu => simp [pw] at hu) (fun u hu => by simp only [pw, List.mem_cons, List.not_mem_nil, or_false] at hu; rcases hu with rfl | rfl <;> rfl) (by unfold maxLen; omega) (by omega) (by simp; omega)
  have hkeep : ∀ q, q < w.heap.size → v.ownBlock ≠ some q → w'.heap[q]? = w.heap[q]? := fun q hq hn => by
    rw [h3.block q (by simp; omega) (fun e => hn e.symm), Below.heap_alloc _ _ _ hq]
  refine ⟨v', w', hr, ⟨?_, ?_⟩, ?_⟩
  · rw [List.flatMap_append]
    simpa using h2
  · intro p hp
    simp only [List.mem_append, List.mem_singleton] at hp
    rcases hp with hp | rfl
    · obtain ⟨g1, g2, g3⟩ := h.dat p hp
      exact ⟨g1.keep (hkeep _ g1.lt (h.ne (List.ne_nil_of_mem hp) g1 g2)), g2, g3⟩
    · refine ⟨ho.keep (hkeep _ ho.lt ?_), hD, hb⟩
      by_cases hp : ps = []
      · exact hv hp
      · exact h.ne hp ho hD
  · exact ((Below.refl base w).alloc hbase _).grown h3 (by simp; omega) fun j hj => (h.row.lt j hj).1
theorem ownI_ints {w : World} {base : Nat} {v : Value} {l : List Int} (h : w.ownsRow base 3 1 v l.length (l.map encZ)) : ∃ A c, v = .slice A l.length c ∧ Ints w (fun q => q < w.heap.size) A l.length c l := by
  rcases h.2 with ⟨rfl, h0⟩ | ⟨g, cap, cur, rfl, hg, hh, hn, hm, hs, ht⟩
  · have : l = [] := List.length_eq_zero_iff.1 h0
    subst this
    exact ⟨_, _, rfl, ints_none _ _⟩
  · refine ⟨_, _, rfl, rfl, hn, hm, fun h0 => ⟨g, 0, rfl, (Array.getElem?_eq_some_iff.1 hh).1, fun j hj => ?_⟩⟩
    rw [Nat.zero_add, cell_of hh]
    have e : cur.toList[j]? = (l.map encZ)[j]? := by
      rw [← ht, List.getElem?_take, if_pos (by omega)]
    rw [← Array.getElem?_toList, e]
    simp [hj, encZ]
def ChsP (w : World) (m : List Wr) (e : Ending) (w' : World) : Prop := ∃ v ps, e = .returned v ∧ ps.map (·.1) = m ∧ LstAt w.heap.size w' v ps ∧ Below w.heap.size w w'
section
variable {w0 w : World} {p d N q : Nat} {O : List Nat} {s : DS} {X : Secs2} {m : List Wr}
set_option maxHeartbeats 2000000 in
theorem changes_any (h : Sto w0 w p d O N s X q m) : Calls Tryz.prog 49 #[.pointer (some ⟨p, 0, none⟩)] w (ChsP w m) := by
  have H := Lib.hid h
  have hl24 := h.mok.len
  have hc1 := h.st.c1
  clear h
  go_enter Tryz.func49, Tryz.ntmps49
  go_wp2_with fail
  refine (keys_call q w).mono ?_
  rintro e w1 ⟨rfl, rfl⟩
  go_wp2_with fail
  refine (sorted_call H.out.map H.out.mok.rise hl24).mono ?_
  rintro e w1 ⟨v, rfl, hrow, hb⟩
  obtain ⟨A, c, rfl, hI⟩ := ownI_ints hrow
  have HI := Lib.hid hI
  have HB := Lib.hid hb
  have H1 := Lib.hid (H.out.below hb)
  have HL : Hid ((m.map (·.1)).length = m.length) := List.length_map _
  rw [HL.out] at hI ⊢
  have hcap := hI.cap
  have hlim := hI.lim
  unfold maxLen at hlim
  clear hrow hI hb hc1
  rw [HL.out] at HI
  have HS1 := Lib.hid HB.out.size
  go_wp2_with fail
  go_loopw [3, 14] (fun u i wr => ∃ k : Nat, ∃ v : Value, ∃ ps, k ≤ m.length ∧ i = .int .i64 k ∧ u = v ∧ Hid (LstAt w1.heap.size wr v ps) ∧ Hid (ps.map (·.1) = m.take k) ∧ Hid (ps = [] → v = .slice none 0 0) ∧ Hid (Below w1.heap.size w1 wr)) (fun _ i _ => m.length - (intOf i).toNat)
  case atStart => exact ⟨0, _, [], Nat.zero_le _, rfl, rfl, ⟨World.ownsRow_nil _ _ _ _, by simp⟩, rfl, fun _ => rfl, Below.refl _ _⟩
  case round =>
    obtain ⟨k, v, ps, hk, rfl, rfl, HA, HP, HV, HBW⟩ := hrel
    by_cases hlt : k < m.length
    · obtain ⟨x, hx⟩ : ∃ x, m[k]? = some x := ⟨_, List.getElem?_eq_getElem hlt⟩
      have hmem := List.mem_of_getElem? hx
      obtain ⟨b, off, rfl, hb, hc⟩ := (HI.out.keep (w' := wr) fun b hb => HBW.out.block b hb).cell hlt
      rw [show ((m.map (·.1))[k]?.getD 0) = x.1 by rw [List.getElem?_map, hx]; rfl] at hc
      have HX := Lib.hid hx
      obtain ⟨g1, g2, g3⟩ := H.out.mok.all x hmem
      have g4 := okn_iff.1 g1
      have H2 := Lib.hid (H1.out.below HBW.out)
      have hlk := H2.out.map.look1 (k := x.1) (by omega) (by omega) (mem_find H.out.mok.rise hmem)
      have hc1 := H2.out.st.c1
      have HL3 := Lib.hid g3
      have HI3 : Hid ((Tryz.prog.info? 144).map (·.size) = some (bc x.2).toArray.size) := by show _ = _; rw [s90]; simp [bc_len, HL3.out]
      have HS3 : Hid ((bc zeros).toArray.size = (bc x.2).toArray.size) := by show _ = _; simp [bc_len, HL3.out]; rfl
      have hz : ∀ w, (zeroValue 144).run Tryz.prog w = .ok (.agg (bc zeros).toArray) w := zero90
      have hpl : ps.length = k := by have := congrArg List.length HP.out; rw [List.length_map, List.length_take] at this; omega
      unfold sv at hlk
      clear g1 g2 g3 g4 hx hmem
      obtain ⟨y, l⟩ := x
      simp only at hc hlk HL3 HI3 HS3
      obtain ⟨a0, a1, a2⟩ := D.box1 wr (Obj.cells (bc l).toArray 144)
      have A0 : Hid (Own (wr.alloc (Obj.cells (bc l).toArray 144)) wr.heap.size l) := ⟨144, a0⟩
      have A1 := Lib.hid a1
      clear a0 a1
      go_upto_region 6 with (first | (refine wpList_store_new rfl 144 _ _ rfl wr (bc zeros).toArray (bc l).toArray rfl rfl HI3.out HS3.out (all_oneCell_toArray (bc_one l)) ?_) | fail)
      clear hlk hz hc hc1 HI3 HS3
      have HA1 := Lib.hid (HA.out.below A1.out)
      have HB1 := Lib.hid (HBW.out.trans (A1.out.mono HBW.out.size))
      have hs1 := HBW.out.size
      have hs2 : w1.heap.size ≤ (wr.alloc (Obj.cells (bc l).toArray 144)).heap.size := HB1.out.size
      clear a2 A1
      generalize wr.alloc (Obj.cells (bc l).toArray 144) = W at *
      obtain ⟨v', w', hr, hA', hb'⟩ := HA1.out.app (y, l) HL3.out A0.out hs1 (by omega) hs2 (fun e => by rw [HV.out e]; simp [Value.ownBlock])
      have HR := Lib.hid hr
      have HA2 := Lib.hid hA'
      have HB2 := Lib.hid (HB1.out.trans hb')
      have HP2 : Hid ((ps ++ [((y, l), wr.heap.size)]).map (·.1) = m.take (k + 1)) := by
        show _ = _
        rw [List.map_append, HP.out, List.take_add_one, HX.out]
        rfl
      have HV2 : Hid (ps ++ [((y, l), wr.heap.size)] = [] → v' = .slice none 0 0) := fun e => absurd e (by simp)
      clear hr hA' hb' HA1 HB1
      go_wp2_with (first | (refine wpList_append_run rfl _ _ 105 rfl _ _ _ _ rfl rfl HR.out ?_) | fail)
      go_roundw
      case rel => exact ⟨k + 1, v', _, by omega, by go_num, rfl, HA2, HP2, HV2, HB2⟩
      case measure => simp [intOf]; omega
    · obtain rfl : k = m.length := by omega
      go_wp2_with fail
      go_ret
      refine ⟨_, ps, rfl, by rw [HP.out, List.take_length], ⟨ownsRow_base_a HA.out.row HS1.out, fun p hp => ?_⟩, HB.out.trans (HBW.out.mono HS1.out)⟩
      obtain ⟨e1, e2, e3⟩ := HA.out.dat p hp
      exact ⟨e1, e2, Nat.le_trans HS1.out e3⟩
end
end Go.Proofs.YtijbgdihnjnllaaGreat
