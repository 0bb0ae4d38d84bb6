/- copyholdref09.Bits, copyholdref09.Bytes, walked. -/
import Derived.Test.YtffoghalhbpplaaMade
namespace Go.Proofs.Ytffoghalhbpplaa
open Go.RowKit
set_option linter.unusedVariables false

def vb (x : Bool) : Value := .bool x
theorem Try.info4 : (Try.prog.info? 4).map (fun i => (i.zero, i.size, i.bytes)) = some (some (.bool false), 1, 1) := by kernel_rfl
theorem appB_run {w : World} {base : Nat} {v : Value} {l : List Bool} (x : Bool) (hown : w.ownsRow base 4 1 v l.length (l.map vb)) (hl : l.length ≤ 2000) (hbase : base ≤ w.heap.size) :
    ∃ v' w', (Builtin.append_ #[29, 29] 29 #[v, .slice (some ⟨w.heap.size, 0, none⟩) 1 1]).run Try.prog (w.alloc (.cells #[.bool x] 4)) = .ok v' w' ∧ w'.ownsRow base 4 1 v' (l ++ [x]).length ((l ++ [x]).map vb) ∧ (w.alloc (.cells #[.bool x] 4)).grownBy w' v.ownBlock := by
  obtain ⟨i0, hi, hz0, hz1, hz2⟩ := info_parts Try.info4
  obtain ⟨v', w', hr, h2, h3, _⟩ := run_append_own (P := Try.prog) (w.alloc (.cells #[.bool x] 4)) base 29 29 4 i0 _ 1 1 Try.underlying29 hi hz0 hz1 hz2 rfl (by decide) v l.length (l.map vb) (hown.alloc _) ⟨w.heap.size, 0, none⟩ 1 1 [vb x] (by simp)
    (fun j u hu => by
      match j, hu with
      | 0, hu =>
        simp only [List.getElem?_cons_zero, Option.some.injEq] at hu
        subst hu
        rw [Addr.add_lit, World.cell?_alloc_mark]
        rfl
      | j + 1, hu => simp at hu) (fun u hu => by simp only [List.mem_singleton] at hu; subst hu; rfl) (by unfold maxLen; omega) (by omega) (by simp; omega)
  exact ⟨v', w', hr, by simpa using h2, h3⟩
theorem bt_at (l : List UInt8) {i j : Nat} (hj : j < 8) : bt l (8 * i + j) = decide ((l[i]?.getD 0).toNat / 2 ^ j % 2 = 1) := by
  unfold bt
  rw [show (8 * i + j) / 8 = i by omega, show (8 * i + j) % 8 = j by omega, bit_div]
/-- A slice of the call's own that holds the truths. -/
def GivesBits (w : World) (l : List Bool) (e : Ending) (w' : World) : Prop := ∃ v, e = .returned v ∧ w'.ownsRow w.heap.size 4 1 v l.length (l.map vb) ∧ Below w.heap.size w w'
set_option maxRecDepth 20000 in
set_option maxHeartbeats 1000000 in
theorem bits_any {w : World} {B c : Nat} {A : Option Addr} {l : List UInt8} (h : Bts w B A 128 c l) (hB : B ≤ w.heap.size) : Calls Try.prog 10 #[.slice A 128 c] w (GivesBits w (bitsL l 1024)) := by
  have H := Lib.hid h
  clear h
  go_enter Try.func10, Try.ntmps10
  go_wp2_with fail
  go_loopw [3, 4] (fun v i wr => ∃ k : Nat, ∃ v0 : Value, k ≤ 128 ∧ i = .int .i64 k ∧ v = v0 ∧ Hid (wr.ownsRow w.heap.size 4 1 v0 (bitsL l (8 * k)).length ((bitsL l (8 * k)).map vb)) ∧ Hid (Below w.heap.size w wr)) (fun _ i _ => 128 - (intOf i).toNat)
  case atStart =>
    refine ⟨0, _, Nat.zero_le _, rfl, rfl, ?_, (Below.refl _ _).alloc (Nat.le_refl _) _⟩
    exact World.ownsRow_made (e := 4) (size := 1) (base := w.heap.size) w #[] 0 (Nat.le_refl _) (by decide) (by rfl)
  case round =>
    obtain ⟨k, v, hk, rfl, rfl, HR, HB⟩ := hrel
    by_cases hlt : k < 128
    · obtain ⟨b, off, rfl, hb, hc⟩ := (H.out.below (HB.out.mono hB)).cell hlt
      have HBT : ∀ j, Hid (j < 8 → bt l (8 * k + j) = decide ((l[k]?.getD 0).toNat / 2 ^ j % 2 = 1)) := fun j hj => bt_at l hj
      generalize l[k]?.getD 0 = x at *
      have hx := x.toNat_lt
      have hk1 : decide ((k : Int) < 128) = true := by simp; omega
      go_wp2_with fail
      clear hc
      go_loopw [3, 5, 6] (fun v n i wr => ∃ j : Nat, ∃ v0 : Value, j ≤ 8 ∧ i = .int .i64 j ∧ n = .int .i64 ((x.toNat / 2 ^ j : Nat) : Int) ∧ v = v0 ∧ Hid (wr.ownsRow w.heap.size 4 1 v0 (bitsL l (8 * k + j)).length ((bitsL l (8 * k + j)).map vb)) ∧ Hid (Below w.heap.size w wr)) (fun _ _ i _ => 8 - (intOf i).toNat)
      case atStart => exact ⟨0, _, Nat.zero_le _, rfl, by simp, rfl, HR, HB⟩
      case round =>
        obtain ⟨j, v, hj, rfl, rfl, rfl, HR, HB⟩ := hrel
        by_cases hlt2 : j < 8
        · have HY : Hid (x.toNat / 2 ^ j / 2 = x.toNat / 2 ^ (j + 1)) := by show _ = _; rw [Nat.div_div_eq_div_mul, Nat.pow_succ]
          have hy : x.toNat / 2 ^ j ≤ 255 := Nat.le_trans (Nat.div_le_self _ _) (by omega)
          have hbt := (HBT j).out hlt2
          have HS := Lib.hid (bitsL_succ l (8 * k + j))
          rw [hbt] at HS
          clear hbt
          have hlen := bitsL_length l (8 * k + j)
          have hsz := HB.out.size
          obtain ⟨o, ho⟩ : ∃ o, decide (x.toNat / 2 ^ j % 2 = 1) = o := ⟨_, rfl⟩
          rw [ho] at HS
          obtain ⟨v', w', hr, ho2, hgr⟩ := appB_run o HR.out (by omega) HB.out.size
          rw [← HS.out] at ho2
          have HR2 := Lib.hid hr
          have HO := Lib.hid ho2
          have HB2 : Hid (Below w.heap.size w w') := (HB.out.alloc hsz _).grown hgr (by simp; omega) (fun j hj => (HR.out.lt j hj).1)
          clear hr ho2 hgr hlen HS
          generalize x.toNat / 2 ^ j = y at *
          cases o with
          | true =>
            have hy1 : ((y : Int) % 2 == 1) = true := by simp at ho ⊢; omega
            clear ho
            go_wp2_with (at_builtin; refine Lib.wpList_append_run _ rfl _ _ _ _ rfl _ _ rfl rfl _ _ HR2.out ?_)
            go_roundw
            case rel => exact ⟨j + 1, v', by omega, by go_num, by rw [← HY.out]; go_num, rfl, HO, HB2⟩
            case measure => simp [intOf]; omega
          | false =>
            have hy1 : ((y : Int) % 2 == 1) = false := by simp at ho ⊢; omega
            clear ho
            go_wp2_with (at_builtin; refine Lib.wpList_append_run _ rfl _ _ _ _ rfl _ _ rfl rfl _ _ HR2.out ?_)
            go_roundw
            case rel => exact ⟨j + 1, v', by omega, by go_num, by rw [← HY.out]; go_num, rfl, HO, HB2⟩
            case measure => simp [intOf]; omega
        · obtain rfl : j = 8 := by omega
          go_wp2_with fail
          go_roundw
          case rel => exact ⟨k + 1, _, by omega, by go_num, rfl, by rw [show 8 * (k + 1) = 8 * k + 8 by omega]; exact HR, HB⟩
          case measure => simp [intOf]; omega
    · obtain rfl : k = 128 := by omega
      go_wp2_with fail
      go_ret
      exact ⟨_, rfl, HR.out, HB.out⟩
theorem add_val (x : UInt8) (e : Nat) : Value.int .u8 (((x.toNat : Int) + 2 ^ e) % 256) = bv (UInt8.ofNat (x.toNat + 2 ^ e)) := by
  unfold bv
  rw [show (2 : Int) ^ e = ((2 ^ e : Nat) : Int) from (Int.natCast_pow 2 _).symm, UInt8.toNat_ofNat']
  congr 1
set_option maxRecDepth 20000 in
set_option maxHeartbeats 1000000 in
theorem bytes_any {w : World} {g c : Nat} {x : List UInt8} (hx : x.length = 128) (hg : g < w.heap.size) (hc : ∀ j, j < 1024 → w.cell? ⟨g, j, none⟩ = some (.bool (bt x j))) :
    Calls Try.prog 11 #[.slice (some ⟨g, 0, none⟩) 1024 c] w fun e w' => e = .returned (.string (sb x)) ∧ Below w.heap.size w w' := by
  have HC := Lib.hid hc
  have HX := Lib.hid hx
  have hmk := make_run w
  have HZ := Lib.hid (zeros_own w)
  clear hc hx
  go_enter Try.func11, Try.ntmps11
  go_wp2_with fail
  clear hmk
  go_loopw [4] (fun i wr => ∃ k : Nat, k ≤ 1024 ∧ i = .int .i64 k ∧ Hid (wr.ownsRow w.heap.size 5 1 (.slice (some ⟨w.heap.size, 0, none⟩) 128 128) (part x k).length ((part x k).map bv)) ∧ Hid (Below w.heap.size w wr)) (fun i _ => 1024 - (intOf i).toNat)
  case atStart =>
    refine ⟨0, Nat.zero_le _, rfl, ?_, (Below.refl _ _).alloc (Nat.le_refl _) _⟩
    rw [part_zero, HX.out]
    exact HZ
  case round =>
    obtain ⟨k, hk, rfl, HR, HB⟩ := hrel
    by_cases hlt : k < 1024
    · have hcb := (HB.out.cell (p := ⟨g, k, none⟩) hg).trans (HC.out k hlt)
      have hk1 : decide ((k : Int) < 1024) = true := by simp; omega
      have HSM := Lib.hid (part_same x (i := k) (by rw [HX.out]; omega))
      have HST := Lib.hid (part_set x (i := k) (by rw [HX.out]; omega))
      generalize bt x k = o at *
      cases o with
      | false =>
        have HE := Lib.hid (HSM.out rfl)
        clear HSM HST
        go_wp2_with fail
        go_roundw
        case rel => exact ⟨k + 1, by omega, by go_num, by rw [HE.out]; exact HR, HB⟩
        case measure => simp [intOf]; omega
      | true =>
        have HE := Lib.hid (HST.out rfl)
        clear HSM HST
        have HPL : Hid ((part x k).length = 128) := by show _ = _; rw [part_length, HX.out]
        have hq : k / 8 < 128 := by omega
        obtain ⟨hcell, hfree⟩ := own_cell HR.out HPL.out hq
        have HN := Lib.hid (add_val ((part x k)[k / 8]?.getD 0) (k % 8))
        have HO2 := Lib.hid (own_set HR.out (k / 8) (UInt8.ofNat (((part x k)[k / 8]?.getD 0).toNat + 2 ^ (k % 8))))
        rw [← HE.out] at HO2
        have HB2 := Lib.hid (HB.out.setCell (p := ⟨w.heap.size, k / 8, none⟩) (Nat.le_refl _) (bv (UInt8.ofNat (((part x k)[k / 8]?.getD 0).toNat + 2 ^ (k % 8)))))
        clear HE HR
        generalize (part x k)[k / 8]?.getD 0 = q at *
        have hql := q.toNat_lt
        go_wp2_with fail
        rw [HN.out]
        go_roundw
        case rel => exact ⟨k + 1, by omega, by go_num, HO2, HB2⟩
        case measure => simp [intOf]; omega
    · obtain rfl : k = 1024 := by omega
      have HE : Hid (part x 1024 = x) := by
        show _ = _
        have := part_all x
        rwa [HX.out] at this
      obtain ⟨A5, n5, c5, e5, hB5⟩ := own_holds HR.out
      cases e5
      rw [HE.out] at hB5
      have hcv := fstr hB5 wr (Below.refl _ _)
      clear hB5 HE HR
      go_wp2_with fail
      go_ret
      exact ⟨rfl, HB.out⟩
/-- One truth of a slice of the call's own. -/
theorem ownB_cell {w : World} {base g cap N j : Nat} {l : List Bool} (h : w.ownsRow base 4 1 (.slice (some ⟨g, 0, none⟩) N cap) l.length (l.map vb)) (hl : l.length = N) (hj : j < N) :
    w.cell? ⟨g, j, none⟩ = some (.bool (l[j]?.getD false)) ∧ w.frozen? ⟨g, j, none⟩ = false := by
  rcases h.2 with ⟨e, _⟩ | ⟨g', cap', cur, e, hg, hh, hn, hm, hs, ht⟩
  · cases e
  · injection e with e1 e2 e3
    injection e1 with e1
    injection e1 with e1
    subst e1
    refine ⟨?_, free_in hh j⟩
    rw [cell_in hh]
    have e : cur.toList[j]? = (l.map vb)[j]? := by
      rw [← ht, List.getElem?_take, if_pos (by omega)]
    rw [← Array.getElem?_toList, e]
    simp [hl, hj, vb]
theorem ownB_set {w : World} {base g cap m : Nat} {l : List Bool} (h : w.ownsRow base 4 1 (.slice (some ⟨g, 0, none⟩) m cap) l.length (l.map vb)) (j : Nat) (y : Bool) :
    (w.setCell ⟨g, j, none⟩ (.bool y)).ownsRow base 4 1 (.slice (some ⟨g, 0, none⟩) m cap) (l.set j y).length ((l.set j y).map vb) := by
  refine ⟨by simp, ?_⟩
  rcases h.2 with ⟨e, _⟩ | ⟨g', cap', cur, e, hg, hh, hn, hm, hs, ht⟩
  · cases e
  · injection e with e1 e2 e3
    injection e1 with e1
    injection e1 with e1
    subst e1 e2 e3
    refine .inr ⟨g, cap, cur.setIfInBounds j (.bool y), by rw [List.length_set], hg, heap_set hh j _, by rw [List.length_set]; exact hn, hm, by rw [Array.size_setIfInBounds]; exact hs, ?_⟩
    rw [List.length_set, Array.toList_setIfInBounds, List.take_set, ht, List.map_set]
    rfl
theorem ownB_form {w : World} {base : Nat} {v : Value} {l : List Bool} (h : w.ownsRow base 4 1 v l.length (l.map vb)) (hl : l.length = 1024) : ∃ g cap, v = .slice (some ⟨g, 0, none⟩) 1024 cap ∧ base ≤ g ∧ g < w.heap.size := by
  rcases h.2 with ⟨_, h0⟩ | ⟨g, cap, cur, e, hg, hh, _⟩
  · omega
  · exact ⟨g, cap, by rw [e, hl], hg, (Array.getElem?_eq_some_iff.1 hh).1⟩
theorem has_yes {w : World} {B c : Nat} {A : Option Addr} {l : List UInt8} (k : Nat) (hk : k < 1024) (h : Bts w B A 128 c l) :
    Calls Try.prog 8 #[.slice A 128 c, .int .i64 k] w fun e w' => e = .returned (.tuple #[.bool (bt l k), .int .i64 0]) ∧ Below w.heap.size w w' := by
  have h1 : oneE 128 (k : Int) = 0 := by unfold oneE; rw [if_pos rfl, if_pos (by omega)]
  have h2 : hasB l 128 (k : Int) = bt l k := by unfold hasB; rw [if_pos h1]; rfl
  have := has_any (k : Int) h
  rw [h1, h2] at this
  exact this
end Go.Proofs.Ytffoghalhbpplaa
