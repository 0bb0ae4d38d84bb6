/- The law's check, walked. -/
import Derived.Test.YtlhkkelpombbiaaBegin
import Derived.Test.YtlhkkelpombbiaaRefs6
namespace Go.Proofs.Ytlhkkelpombbiaa
open Go.RowKit
set_option linter.unusedVariables false

def iv (x : Int) : Value := .int .i64 x
theorem info3 : (Try.prog.info? 3).map (fun i => (i.zero, i.size, i.bytes)) = some (some (.int .i64 0), 1, 8) := by kernel_rfl
theorem appI_run {w : World} {base : Nat} {v : Value} {l : List Int} (x : Int) (hown : w.ownsRow base 3 1 v l.length (l.map iv)) (hl : (l.length + 1) * 8 ≤ 140737488355328) (hbase : base ≤ w.heap.size) :
    ∃ v' w', (Builtin.append_ #[22, 22] 22 #[v, .slice (some ⟨w.heap.size, 0, none⟩) 1 1]).run Try.prog (w.alloc (.cells #[.int .i64 x] 3)) = .ok v' w' ∧ w'.ownsRow base 3 1 v' (l ++ [x]).length ((l ++ [x]).map iv) ∧ (w.alloc (.cells #[.int .i64 x] 3)).grownBy w' v.ownBlock := by
  obtain ⟨i0, hi, hz0, hz1, hz2⟩ := info_parts info3
  obtain ⟨v', w', hr, h2, h3, _⟩ := run_append_own (P := Try.prog) (w.alloc (.cells #[.int .i64 x] 3)) base 22 22 3 i0 _ 1 8 Try.underlying22 hi hz0 hz1 hz2 rfl (by decide) v l.length (l.map iv) (hown.alloc _) ⟨w.heap.size, 0, none⟩ 1 1 [iv x] (by simp)
    (fun j u hu => by
      match j, hu with
      | 0, hu =>
        simp only [List.getElem?_cons_zero, Option.some.injEq] at hu
        subst hu
        rw [Addr.add_lit, World.cell?_alloc_mark]
        rfl
      | j + 1, hu => simp at hu) (fun u hu => by simp only [List.mem_singleton] at hu; subst hu; rfl) (by unfold maxLen; omega) hl (by simp; omega)
  exact ⟨v', w', hr, by simpa using h2, h3⟩
theorem ownI_ints {w : World} {base : Nat} {v : Value} {l : List Int} (h : w.ownsRow base 3 1 v l.length (l.map iv)) : ∃ A n c, v = .slice A n c ∧ Ints w (fun q => q < w.heap.size) A n c l := by
  rcases h.2 with ⟨rfl, h0⟩ | ⟨g, cap, cur, rfl, hg, hh, hn, hm, hs, ht⟩
  · have : l = [] := List.length_eq_zero_iff.1 h0
    subst this
    exact ⟨_, _, _, rfl, ints_none _ _⟩
  · refine ⟨_, _, _, rfl, rfl, hn, hm, fun h0 => ⟨g, 0, rfl, (Array.getElem?_eq_some_iff.1 hh).1, fun j hj => ?_⟩⟩
    rw [Nat.zero_add, cell_of hh]
    have e : cur.toList[j]? = (l.map iv)[j]? := by
      rw [← ht, List.getElem?_take, if_pos (by omega)]
    rw [← Array.getElem?_toList, e]
    simp [hj, iv]
/-- Each is below N, and has 128 bytes. -/
def okW (N : Nat) (w : Wr) : Bool := decide (w.1 < (N : Int)) && w.2.length == 128
def chkE (N : Nat) (ws : List Wr) : Int := if ws = [] then 0 else if fit N ws then 0 else 1
theorem fit_eq (N : Nat) (ws : List Wr) : fit N ws = (ws.all (okW N) && good (ws.map (·.1))) := by
  cases hg : good (ws.map (·.1)) with
  | false => simp [fit, hg]
  | true =>
    have h1 : (withinL N (ws.map (·.1)) && wholeL ws) = ws.all (okW N) := by
      rw [Bool.eq_iff_iff]
      unfold withinL wholeL okW
      simp only [Bool.and_eq_true, List.all_eq_true, List.mem_map, decide_eq_true_eq]
      constructor
      · rintro ⟨g1, g2⟩ w hw
        exact ⟨(g1 w.1 ⟨w, hw, rfl⟩).2, g2 w hw⟩
      · intro g
        refine ⟨?_, fun w hw => (g w hw).2⟩
        rintro x ⟨w, hw, rfl⟩
        exact ⟨(okn_iff.1 ((good_iff.1 hg).2.1 w.1 (List.mem_map.2 ⟨w, hw, rfl⟩))).1, (g w hw).1⟩
    unfold fit
    rw [hg, h1]
    simp
theorem take_all_snoc {α : Type} {p : α → Bool} {l : List α} {k : Nat} {x : α} (h : l[k]? = some x) : (l.take (k + 1)).all p = ((l.take k).all p && p x) := by
  obtain ⟨hk, rfl⟩ := List.getElem?_eq_some_iff.1 h
  rw [List.take_succ_eq_append_getElem hk, List.all_append]
  simp
theorem take_map_snoc {l : List Wr} {k : Nat} {x : Wr} (h : l[k]? = some x) : (l.take (k + 1)).map (·.1) = (l.take k).map (·.1) ++ [x.1] := by
  obtain ⟨hk, rfl⟩ := List.getElem?_eq_some_iff.1 h
  rw [List.take_succ_eq_append_getElem hk, List.map_append]
  rfl
set_option maxRecDepth 20000 in
set_option maxHeartbeats 2000000 in
theorem check_any {w : World} {M : Nat → Prop} {A : Option Addr} {n c : Nat} {ws : List Wr} (N : Nat) (hW : Wrs w M A n c ws) (hM : ∀ b, M b → b < w.heap.size) (hn : n * 8 ≤ 70368744177664) (hN : N ≤ 1024) :
    Calls Try.prog 16 #[.slice A n c, .int .i64 N] w fun e w' => e = .returned (.int .i64 (chkE N ws)) ∧ Below w.heap.size w w' := by
  have HW := Lib.hid hW
  have HM := Lib.hid hM
  have hlim := hW.lim
  have hcap := hW.cap
  unfold maxLen at hlim
  clear hW hM
  obtain ⟨q, hq⟩ : ∃ q, chkE N ws = q := ⟨_, rfl⟩
  rw [hq]
  have HQ0 := Lib.hid hq
  clear hq
  go_enter Try.func16, Try.ntmps16
  go_wp2_with fail
  go_loopw [5, 6, 7] (fun v o i wr => ∃ k : Nat, ∃ v0 : Value, k ≤ n ∧ i = .int .i64 k ∧ v = v0 ∧ o = .bool ((ws.take k).all (okW N)) ∧ Hid (wr.ownsRow w.heap.size 3 1 v0 ((ws.take k).map (·.1)).length (((ws.take k).map (·.1)).map iv)) ∧ Hid (Below w.heap.size w wr)) (fun _ _ i _ => n - (intOf i).toNat)
  case atStart =>
    refine ⟨0, _, Nat.zero_le _, rfl, rfl, by simp, ?_, (Below.refl _ _).alloc (Nat.le_refl _) _⟩
    exact World.ownsRow_made (e := 3) (size := 1) (base := w.heap.size) w #[] 0 (Nat.le_refl _) (by decide) (by rfl)
  case round =>
    obtain ⟨k, v, hk, rfl, rfl, rfl, HR, HB⟩ := hrel
    by_cases hlt : k < n
    · obtain ⟨x, hx⟩ : ∃ x, ws[k]? = some x := ⟨_, List.getElem?_eq_getElem (by rw [HW.out.len]; exact hlt)⟩
      obtain ⟨b, off, rfl, hb, hc0, A', n', c', hc1, hB⟩ := (HW.out.keep (w' := wr) fun b hb => HB.out.block b (HM.out b hb)).get hx
      have hl2 : x.2.length = n' := hB.len
      have HX := Lib.hid hx
      have hlen : ((ws.take k).map (·.1)).length = k := by rw [List.length_map, List.length_take, HW.out.len]; omega
      obtain ⟨v', w', hr, ho, hgr⟩ := appI_run x.1 HR.out (by rw [hlen]; omega) HB.out.size
      rw [← take_map_snoc hx] at ho
      have HR2 := Lib.hid hr
      have HO := Lib.hid ho
      have hsz := HB.out.size
      have HB2 : Hid (Below w.heap.size w w') := (HB.out.alloc hsz _).grown hgr (by simp; omega) (fun j hj => (HR.out.lt j hj).1)
      have hkeep : ∀ o, w'.cell? ⟨b, o, none⟩ = wr.cell? ⟨b, o, none⟩ := fun o => by
        have hbw := HM.out b hb
        rw [HB2.out.cell (p := ⟨b, o, none⟩) hbw, HB.out.cell (p := ⟨b, o, none⟩) hbw]
      have hd0 := (hkeep (off + k * 2)).trans hc0
      have hd1 := (hkeep (off + k * 2 + 1)).trans hc1
      have HT : Hid ((ws.take (k + 1)).all (okW N) = ((ws.take k).all (okW N) && (decide (x.1 < (N : Int)) && n' == 128))) := by
        show _ = _
        rw [take_all_snoc hx, ← hl2]
        rfl
      obtain ⟨y, l⟩ := x
      simp only at hc0 hB hd0 HT HR2
      clear hx hB hr ho hgr hkeep hl2 hlen
      generalize (ws.take k).all (okW N) = o at *
      cases o with
      | false =>
        have HT2 : Hid ((ws.take (k + 1)).all (okW N) = false) := by show _ = _; rw [HT.out]; rfl
        go_wp2_with (at_builtin; refine Lib.wpList_append_run _ rfl _ _ _ _ rfl _ _ rfl rfl _ _ HR2.out ?_)
        go_roundw
        case rel => exact ⟨k + 1, v', by omega, by go_num, rfl, by rw [HT2.out], HO, HB2⟩
        case measure => simp [intOf]; omega
      | true =>
        by_cases hy : y < (N : Int)
        · have HT2 : Hid ((ws.take (k + 1)).all (okW N) = (n' == 128)) := by show _ = _; rw [HT.out]; simp [hy]
          have hy1 : decide (y < (N : Int)) = true := by simpa using hy
          by_cases hn' : n' = 128
          · subst hn'
            go_wp2_with (at_builtin; refine Lib.wpList_append_run _ rfl _ _ _ _ rfl _ _ rfl rfl _ _ HR2.out ?_)
            go_roundw
            case rel => exact ⟨k + 1, v', by omega, by go_num, rfl, by rw [HT2.out]; rfl, HO, HB2⟩
            case measure => simp [intOf]; omega
          · have hn1 : ((n' : Int) == 128) = false := by simp; omega
            have HT3 : Hid ((ws.take (k + 1)).all (okW N) = false) := by show _ = _; rw [HT2.out]; simpa using hn'
            go_wp2_with (at_builtin; refine Lib.wpList_append_run _ rfl _ _ _ _ rfl _ _ rfl rfl _ _ HR2.out ?_)
            go_roundw
            case rel => exact ⟨k + 1, v', by omega, by go_num, rfl, by rw [HT3.out], HO, HB2⟩
            case measure => simp [intOf]; omega
        · have HT2 : Hid ((ws.take (k + 1)).all (okW N) = false) := by show _ = _; rw [HT.out]; simp [hy]
          have hy1 : decide (y < (N : Int)) = false := by simpa using hy
          go_wp2_with (at_builtin; refine Lib.wpList_append_run _ rfl _ _ _ _ rfl _ _ rfl rfl _ _ HR2.out ?_)
          go_roundw
          case rel => exact ⟨k + 1, v', by omega, by go_num, rfl, by rw [HT2.out], HO, HB2⟩
          case measure => simp [intOf]; omega
    · obtain rfl : k = n := by omega
      have htk : ws.take k = ws := List.take_of_length_le (by rw [HW.out.len]; omega)
      rw [htk] at HR ⊢
      obtain ⟨A1, n1, c1, rfl, hI1⟩ := ownI_ints HR.out
      have HI := Lib.hid hI1
      have HF := Lib.hid (fit_eq N ws)
      have HLN := Lib.hid HW.out.len
      clear hI1 htk
      by_cases hk0 : k = 0
      · subst hk0
        obtain rfl : ws = [] := List.length_eq_zero_iff.1 HLN.out
        obtain rfl : q = 0 := HQ0.out.symm
        go_wp2_with fail
        go_ret
        exact ⟨rfl, HB.out⟩
      · have hne : ¬ ws = [] := fun e => hk0 (by rw [← HLN.out, e]; rfl)
        have hk1 : decide (0 < (k : Int)) = true := by simp; omega
        have HQ := Lib.hid HQ0.out
        clear HQ0
        unfold chkE at HQ
        rw [if_neg hne, HF.out] at HQ
        clear hne HF
        generalize ws.all (okW N) = o at *
        cases o with
        | false =>
          obtain rfl : q = 1 := by have := HQ.out; simpa using this.symm
          go_wp2_with fail
          go_ret
          exact ⟨rfl, HB.out⟩
        | true =>
          go_wp2_with fail
          refine (refGood_any HI.out (fun b hb => hb)).mono ?_
          rintro e w2 ⟨rfl, hb2⟩
          have HB2 := Lib.hid (HB.out.trans (hb2.mono HB.out.size))
          clear hb2
          cases hg : good (ws.map (·.1)) with
          | false =>
            obtain rfl : q = 1 := by have := HQ.out; rw [hg] at this; simpa using this.symm
            clear hg
            go_wp2_with fail
            go_ret
            exact ⟨rfl, HB2.out⟩
          | true =>
            obtain rfl : q = 0 := by have := HQ.out; rw [hg] at this; simpa using this.symm
            clear hg
            go_wp2_with fail
            go_ret
            exact ⟨rfl, HB2.out⟩
end Go.Proofs.Ytlhkkelpombbiaa
