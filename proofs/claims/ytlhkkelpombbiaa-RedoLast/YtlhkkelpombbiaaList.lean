/- The law's list, walked. -/
import Derived.Test.YtlhkkelpombbiaaBegin
namespace Go.Proofs.Ytlhkkelpombbiaa
open Go.RowKit
set_option linter.unusedVariables false

/-- A write's two cells: its number, and the block of its bytes. -/
def pc (p : Int × Nat) : List Value := [.int .i64 p.1, .slice (some ⟨p.2, 0, none⟩) 128 128]
theorem pc_len (p : Int × Nat) : (pc p).length = 2 := rfl
/-- The writes that are listed: numbers, each once, in bounds. -/
structure Lst (ps : List (Int × Nat)) : Prop where
  bnd : ∀ p ∈ ps, 26 ≤ p.1 ∧ p.1 < 90
  nd : (ps.map (·.1)).Nodup
  len : ps.length ≤ 24
/-- The listed writes in memory. -/
structure LstAt (base : Nat) (w : World) (v : Value) (ps : List (Int × Nat)) (D : List UInt8) : Prop where
  row : w.ownsRow base 56 2 v ps.length (ps.flatMap pc)
  dat : ∀ p ∈ ps, Own w p.2 D ∧ base ≤ p.2
theorem info56 : (Try.prog.info? 56).map (fun i => (i.zero, i.size, i.bytes)) = some (some (.agg #[.int .i64 0, .slice none 0 0]), 2, 32) := by kernel_rfl
theorem LstAt.wrs {base : Nat} {w : World} {v : Value} {ps : List (Int × Nat)} {D : List UInt8} (h : LstAt base w v ps D) (hD : D.length = 128) :
    ∃ A c, v = .slice A ps.length c ∧ Wrs w (fun q => base ≤ q ∧ q < w.heap.size) A ps.length c (ps.map fun p => (p.1, D)) := by
  rcases h.row.2 with ⟨rfl, h0⟩ | ⟨g, cap, cur, rfl, hg, hh, hn, hm, hs, ht⟩
  · obtain rfl : ps = [] := List.length_eq_zero_iff.1 h0
    exact ⟨none, 0, rfl, rfl, Nat.le_refl _, by unfold maxLen; omega, fun h => absurd h (by simp)⟩
  · refine ⟨_, _, rfl, by simp, hn, hm, fun h0 => ⟨g, 0, rfl, ⟨hg, (Array.getElem?_eq_some_iff.1 hh).1⟩, fun j x hj => ?_⟩⟩
    rw [List.getElem?_map] at hj
    cases hp : ps[j]? with
    | none => simp [hp] at hj
    | some p =>
      simp only [hp, Option.map_some, Option.some.injEq] at hj
      subst hj
      have hjl : j < ps.length := (List.getElem?_eq_some_iff.1 hp).1
      have hget : ∀ i, i < 2 → cur[j * 2 + i]? = (pc p)[i]? := fun i hi => by
        have : cur.toList[j * 2 + i]? = (ps.flatMap pc)[j * 2 + i]? := by
          rw [← ht, List.getElem?_take, if_pos (by omega)]
        rw [← Array.getElem?_toList, this, flat_get (fun x _ => pc_len x) hp hi]
      obtain ⟨h1, h2⟩ := h.dat p (List.mem_of_getElem? hp)
      refine ⟨by rw [Nat.zero_add, cell_of hh]; exact hget 0 (by omega), _, _, _, by rw [Nat.zero_add, cell_of hh]; exact hget 1 (by omega), h1.bts hD ⟨h2, h1.lt⟩⟩
theorem LstAt.ne {base : Nat} {w : World} {v : Value} {ps : List (Int × Nat)} {D D' : List UInt8} {b : Nat} (h : LstAt base w v ps D) (hp : ps ≠ []) (ho : Own w b D') (hD : D'.length = 128) : v.ownBlock ≠ some b := by
  intro e
  rcases h.row.2 with ⟨rfl, h0⟩ | ⟨g, cap, cur, rfl, hg, hh, hn, hm, hs, ht⟩
  · cases e
  · cases e
    obtain ⟨t, ho⟩ := ho
    rw [hh] at ho
    simp only [Option.some.injEq, Obj.cells.injEq] at ho
    obtain ⟨p, r, rfl⟩ := List.exists_cons_of_ne_nil hp
    have h1 : cur.toList[0]? = some (.int .i64 p.1) := by
      have : cur.toList[0]? = ((p :: r).flatMap pc)[0]? := by rw [← ht, List.getElem?_take, if_pos (by simp)]
      rw [this]
      rfl
    rw [ho.1] at h1
    rw [Array.getElem?_toList, List.getElem?_toArray, bc_get (by omega)] at h1
    cases h1
theorem LstAt.below {base : Nat} {w w' : World} {v : Value} {ps : List (Int × Nat)} {D : List UInt8} (h : LstAt base w v ps D) (hb : Below w.heap.size w w') : LstAt base w' v ps D :=
  ⟨ownsRow_keep h.row fun b hb' => hb.block b (h.row.lt b hb').2, fun p hp => ⟨(h.dat p hp).1.below hb, (h.dat p hp).2⟩⟩
/-- One more. -/
theorem LstAt.app {base b : Nat} {w : World} {v : Value} {ps : List (Int × Nat)} {D : List UInt8} (h : LstAt base w v ps D) (hD : D.length = 128) (x : Int) (ho : Own w b D) (hb : base ≤ b) (hl : ps.length ≤ 24) (hbase : base ≤ w.heap.size) (hv : ps = [] → v.ownBlock ≠ some b) :
    ∃ v' w', (Builtin.append_ #[43, 43] 43 #[v, .slice (some ⟨w.heap.size, 0, none⟩) 1 1]).run Try.prog (w.alloc (.cells #[.int .i64 x, .slice (some ⟨b, 0, none⟩) 128 128] 56)) = .ok v' w' ∧ LstAt base w' v' (ps ++ [(x, b)]) D ∧ Below base w w' := by
  obtain ⟨i0, hi, hz0, hz1, hz2⟩ := info_parts info56
  obtain ⟨v', w', hr, h2, h3, _⟩ := run_append_own (P := Try.prog) (w.alloc (.cells #[.int .i64 x, .slice (some ⟨b, 0, none⟩) 128 128] 56)) base 43 43 56 i0 _ 2 32 Try.underlying43 hi hz0 hz1 hz2 rfl (by decide) v ps.length (ps.flatMap pc) (h.row.alloc _) ⟨w.heap.size, 0, none⟩ 1 1 (pc (x, b)) (by rfl)
    (fun j u hu => by
      rw [Addr.add_lit, World.cell?_alloc_mark, Nat.zero_add]
      match j, hu with
      | 0, hu => exact hu
      | 1, hu => exact hu
      | j + 2, hu => simp [pc] at hu) (fun u hu => by simp only [pc, List.mem_cons, List.not_mem_nil, or_false] at hu; rcases hu with rfl | rfl <;> rfl) (by unfold maxLen; omega) (by omega) (by simp; omega)
  have hkeep : ∀ q, q < w.heap.size → v.ownBlock ≠ some q → w'.heap[q]? = w.heap[q]? := fun q hq hn => by
    rw [h3.block q (by simp; omega) (fun e => hn e.symm), Below.heap_alloc _ _ _ hq]
  refine ⟨v', w', hr, ⟨?_, ?_⟩, ?_⟩
  · rw [List.flatMap_append]
    simpa using h2
  · intro p hp
    simp only [List.mem_append, List.mem_singleton] at hp
    rcases hp with hp | rfl
    · obtain ⟨g1, g2⟩ := h.dat p hp
      exact ⟨g1.keep (hkeep _ g1.lt (h.ne (List.ne_nil_of_mem hp) g1 hD)), g2⟩
    · refine ⟨ho.keep (hkeep _ ho.lt ?_), hb⟩
      by_cases hp : ps = []
      · exact hv hp
      · exact h.ne hp ho hD
  · exact ((Below.refl base w).alloc hbase _).grown h3 (by simp; omega) fun j hj => (h.row.lt j hj).1
theorem Lst.snoc {ps : List (Int × Nat)} (h : Lst ps) {x : Int} {b : Nat} (hx : 26 ≤ x ∧ x < 90) (hn : x ∉ ps.map (·.1)) (hl : ps.length < 24) : Lst (ps ++ [(x, b)]) := by
  refine ⟨fun p hp => ?_, ?_, by simp; omega⟩
  · simp only [List.mem_append, List.mem_singleton] at hp
    rcases hp with hp | rfl
    · exact h.bnd p hp
    · exact hx
  · rw [List.map_append]
    refine List.nodup_append.2 ⟨h.nd, by simp, fun a ha c hc => ?_⟩
    simp only [List.map_cons, List.map_nil, List.mem_singleton] at hc
    subst hc
    exact fun e => hn (e ▸ ha)
def LstP (w : World) (D : List UInt8) (e : Ending) (w' : World) : Prop := ∃ v ps, e = .returned v ∧ Lst ps ∧ LstAt w.heap.size w' v ps D ∧ Below w.heap.size w w'
set_option maxRecDepth 20000 in
set_option maxHeartbeats 2000000 in
theorem list_any {w : World} {A : Option Addr} {n c : Nat} {l : List UInt8} (x : UInt8) (h : F.Bts w w.heap.size A n c l) :
    Calls Try.prog 25 #[.slice A n c, .int .u8 (x.toNat : Int)] w (LstP w (zeros.set 3 x)) := by
  have H := Lib.hid h
  have hlim := h.lim
  have hcap := h.cap
  unfold maxLen at hlim
  have HD : Hid ((zeros.set 3 x).length = 128) := by show _ = _; rw [List.length_set, zeros_len]
  clear h
  go_enter Try.func25, Try.ntmps25
  go_wp2_with fail
  go_loopw [5, 6] (fun u i wr => ∃ k : Nat, ∃ v : Value, ∃ ps, k ≤ n ∧ i = .int .i64 k ∧ u = v ∧ Hid (Lst ps) ∧ Hid (LstAt w.heap.size wr v ps (zeros.set 3 x)) ∧ Hid (ps = [] → v = .slice (some ⟨w.heap.size, 0, none⟩) 0 0) ∧ Hid (w.heap.size < wr.heap.size) ∧ Hid (Below w.heap.size w wr)) (fun _ i _ => n - (intOf i).toNat)
  case atStart =>
    refine ⟨0, _, [], Nat.zero_le _, rfl, rfl, ⟨by simp, by simp, by simp⟩, ⟨?_, by simp⟩, fun _ => rfl, by simp [Hid], (Below.refl _ _).alloc (Nat.le_refl _) _⟩
    exact World.ownsRow_made (e := 56) (size := 2) (base := w.heap.size) w #[] 0 (Nat.le_refl _) (by decide) (by rfl)
  case round =>
    obtain ⟨k, v, ps, hk, rfl, rfl, HL, HA, HV, HZ, HB⟩ := hrel
    obtain ⟨A1, c1, rfl, hw1⟩ := HA.out.wrs HD.out
    have HW := Lib.hid hw1
    have hlim1 := hw1.lim
    have hcap1 := hw1.cap
    unfold maxLen at hlim1
    have hpl := HL.out.len
    clear hw1
    by_cases hlt : k < n
    · by_cases h24 : ps.length < 24
      · obtain ⟨b, off, rfl, hb, hc⟩ := (H.out.below HB.out).cell hlt
        have hyl := (l[k]?.getD 0).toNat_lt
        generalize l[k]?.getD 0 = y at *
        have h24' : (ps.length : Int) < 24 := by omega
        go_wp2_with fail
        have hz : (26 : Int) ≤ 26 + (y.toNat : Int) % 64 ∧ 26 + (y.toNat : Int) % 64 < 90 := by omega
        generalize 26 + (y.toNat : Int) % 64 = z at *
        have HLN : Hid ((ps.map (·.1)).length = ps.length) := List.length_map _
        go_loop [8, 9] (fun t i => ∃ m : Nat, m ≤ ps.length ∧ i = .int .i64 m ∧ t = .bool (decide (z ∈ (ps.map (·.1)).take m))) (fun _ i => ps.length - (intOf i).toNat)
        case atStart => exact ⟨0, Nat.zero_le _, rfl, by simp⟩
        case round =>
          obtain ⟨m, hm, rfl, rfl⟩ := hrel
          by_cases hlt2 : m < ps.length
          · obtain ⟨p, hp⟩ : ∃ p, ps[m]? = some p := ⟨_, List.getElem?_eq_getElem hlt2⟩
            obtain ⟨g, o, rfl, hg, hc0, _⟩ := HW.out.get (j := m) (x := (p.1, zeros.set 3 x)) (by rw [List.getElem?_map, hp]; rfl)
            have HT : Hid (z ∈ (ps.map (·.1)).take (m + 1) ↔ z ∈ (ps.map (·.1)).take m ∨ z = p.1) := by
              have := mem_take (l := ps.map (·.1)) (k := m) (v := z) (by rw [HLN.out]; exact hlt2)
              rw [List.getElem?_map, hp] at this
              exact this
            generalize p.1 = pn at *
            clear hp
            by_cases hin : z ∈ (ps.map (·.1)).take m
            · have h1 : decide (z ∈ (ps.map (·.1)).take m) = true := by simpa using hin
              have HD2 : Hid (decide (z ∈ (ps.map (·.1)).take (m + 1)) = true) := by show _ = _; rw [decide_eq_true_eq]; exact HT.out.2 (.inl hin)
              rw [h1]
              clear h1 hin
              go_wp2_with fail
              go_round
              case rel => exact ⟨m + 1, by omega, by go_num, by rw [HD2.out]⟩
              case measure => simp [intOf]; omega
            · have h1 : decide (z ∈ (ps.map (·.1)).take m) = false := by simpa using hin
              have HNI := Lib.hid hin
              rw [h1]
              clear h1 hin
              by_cases he : pn = z
              · have HD2 : Hid (decide (z ∈ (ps.map (·.1)).take (m + 1)) = true) := by show _ = _; rw [decide_eq_true_eq]; exact HT.out.2 (.inr he.symm)
                have he' : (pn == z) = true := by simpa using he
                clear he
                go_wp2_with fail
                go_round
                case rel => exact ⟨m + 1, by omega, by go_num, by rw [HD2.out]⟩
                case measure => simp [intOf]; omega
              · have HD2 : Hid (decide (z ∈ (ps.map (·.1)).take (m + 1)) = false) := by
                  show _ = _
                  rw [decide_eq_false_iff_not]
                  intro hh
                  rcases HT.out.1 hh with h | h
                  · exact HNI.out h
                  · exact he h.symm
                have he' : (pn == z) = false := by simpa using he
                clear he
                go_wp2_with fail
                go_round
                case rel => exact ⟨m + 1, by omega, by go_num, by rw [HD2.out]⟩
                case measure => simp [intOf]; omega
          · obtain rfl : m = ps.length := by omega
            have htk : (ps.map (·.1)).take ps.length = ps.map (·.1) := List.take_of_length_le (by rw [HLN.out]; omega)
            rw [htk]
            clear htk
            by_cases hin : z ∈ ps.map (·.1)
            · have h1 : decide (z ∈ ps.map (·.1)) = true := by simpa using hin
              rw [h1]
              clear h1 hin
              go_wp2_with fail
              go_roundw
              case rel => exact ⟨k + 1, _, ps, by omega, by go_num, rfl, HL, HA, HV, HZ, HB⟩
              case measure => simp [intOf]; omega
            · have h1 : decide (z ∈ ps.map (·.1)) = false := by simpa using hin
              have HL2 : ∀ b, Lst (ps ++ [(z, b)]) := fun b => HL.out.snoc hz hin h24
              rw [h1]
              have HL2 := Lib.hid HL2
              clear h1 hin
              obtain ⟨bx, w1, hrun, hO0, hbx, hbl⟩ := make128 wr
              have hcx := hO0.cell (j := 3) (x := 0) (by rw [zeros, List.getElem?_replicate, if_pos (by omega)])
              have hfx := hO0.frozen 3
              have hO1 := hO0.set x (j := 3) (by rw [zeros_len]; omega)
              have hzs : (w1.setCell ⟨bx, 3, none⟩ (.int .u8 (x.toNat : Int))).heap.size = w1.heap.size := by simp
              have hwz := HZ.out
              have hAl := HA.out.below hbl
              have hAs : LstAt w.heap.size (w1.setCell ⟨bx, 3, none⟩ (.int .u8 (x.toNat : Int))) (.slice A1 ps.length c1) ps (zeros.set 3 x) := by
                have hk : ∀ q, q < wr.heap.size → (w1.setCell ⟨bx, 3, none⟩ (.int .u8 (x.toNat : Int))).heap[q]? = wr.heap[q]? := fun q hq => by
                  rw [Below.heap_setCell _ _ _ _ (by show q ≠ bx; omega)]; exact hbl.block q hq
                exact ⟨ownsRow_keep HA.out.row fun q hq => hk q (HA.out.row.lt q hq).2, fun p hp => ⟨(HA.out.dat p hp).1.keep (hk _ (HA.out.dat p hp).1.lt), (HA.out.dat p hp).2⟩⟩
              have hw1s := hbl.size
              obtain ⟨v', w', hr, hA', hB'⟩ := hAs.app HD.out z hO1 (by omega) hpl (by rw [hzs]; omega) (fun hp => by rw [HV.out hp]; simp [Value.ownBlock]; omega)
              have HB2 : Hid (Below w.heap.size w w') := (HB.out.trans ((hbl.mono (by omega)).setCell (p := ⟨bx, 3, none⟩) (by show _ ≤ bx; omega) _)).trans hB'
              have HZ2 : Hid (w.heap.size < w'.heap.size) := by
                show _ < _
                have := hB'.size
                rw [hzs] at this
                omega
              rw [hzs] at hr
              have HR := Lib.hid hr
              have HA2 := Lib.hid hA'
              clear hr hA' hB' hAs hAl hO1 hO0 hbl hzs hbx
              go_wp2_with (at_builtin; refine Lib.wpList_append_run _ rfl _ _ _ _ rfl _ _ rfl rfl _ _ HR.out ?_)
              go_roundw
              case rel => exact ⟨k + 1, v', ps ++ [(z, bx)], by omega, by go_num, rfl, HL2.out bx, HA2, fun e => by simp at e, HZ2, HB2⟩
              case measure => simp [intOf]; omega
      · have h24' : decide ((ps.length : Int) < 24) = false := by simp; omega
        go_wp2_with fail
        go_ret
        exact ⟨_, ps, rfl, HL.out, HA.out, HB.out⟩
    · obtain rfl : k = n := by omega
      go_wp2_with fail
      go_ret
      exact ⟨_, ps, rfl, HL.out, HA.out, HB.out⟩
end Go.Proofs.Ytlhkkelpombbiaa
