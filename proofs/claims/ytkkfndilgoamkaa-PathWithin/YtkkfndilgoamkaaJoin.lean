/- ref.Split whole; path.Join, Clean, Last, Within, walked. -/
import Derived.Test.YtkkfndilgoamkaaRefLoop
namespace Go.Proofs.Ytkkfndilgoamkaa
open Go.RowKit
set_option linter.unusedVariables false

set_option maxHeartbeats 1000000 in
theorem refSplit_any (s : List UInt8) (w : World) : Calls Try.prog 11 #[.string (bs s)] w (Splits w (split s)) := by
  by_cases hl : 96 < s.length
  · have HS : Hid (split s = ([], 17)) := by show _ = _; unfold split; rw [if_pos hl]
    have hs : 96 < (bs s).size := by rw [bs_size]; omega
    clear hl
    go_enter Try.func11, Try.ntmps11
    go_wp2
    go_ret2
    rw [HS.out]
    exact Splits.none (Below.refl _ _)
  · have hs : (bs s).size ≤ 96 := by rw [bs_size]; omega
    by_cases hp : ∃ r, s = 47 :: r
    · obtain ⟨r, rfl⟩ := hp
      have e : split (47 :: r) = goes [] (parts r) := by unfold split; rw [if_neg hl]; simp
      rw [e]
      exact refSplit_loop _ r w hl rfl
    · cases s with
      | nil =>
        have h0 : bs [] = ByteArray.empty := rfl
        go_enter Try.func11, Try.ntmps11
        go_wp2
        go_ret2
        exact Splits.none (Below.refl _ _)
      | cons c r =>
        have hc : ¬ c = 47 := fun e => hp ⟨r, by rw [e]⟩
        have HS : Hid (split (c :: r) = ([], 5)) := by
          show _ = _
          unfold split
          rw [if_neg hl]
          simp [hc]
        have hs0 : 1 ≤ (bs (c :: r)).size := by rw [bs_size]; simp
        have hd0 : (((bs (c :: r)).size : Int) == 0) = false := by rw [beq_eq_false_iff_ne]; omega
        have hd1 : ¬ bs (c :: r) = ByteArray.empty := fun e => by rw [e] at hs0; exact absurd hs0 (by decide)
        have hd2 : 0 < (bs (c :: r)).size := by omega
        have hg : ((((bs (c :: r))[0]'hd2).toNat : Int) == 47) = false := by
          rw [bs_get _ 0 hd2 (by simp)]
          simp
          intro e
          exact hc (UInt8.toNat_inj.1 (by show _ = 47; omega))
        clear hp hc
        go_enter Try.func11, Try.ntmps11
        go_wp2
        go_ret2
        rw [HS.out]
        exact Splits.none (Below.refl _ _)
theorem all_takeN {l : List (List UInt8)} {k : Nat} (h : k < l.length) : (l.take (k + 1)).all nameB = ((l.take k).all nameB && nameB (l[k]?.getD [])) := by
  rw [List.take_succ_eq_append_getElem h, List.all_append, List.getElem?_eq_getElem h]
  simp
theorem all_notN {l : List (List UInt8)} {k : Nat} (h : k < l.length) (hk : nameB (l[k]?.getD []) = false) : l.all nameB = false := by
  rw [List.getElem?_eq_getElem h] at hk
  rw [List.all_eq_false]
  exact ⟨l[k], List.getElem_mem h, by simpa using hk⟩
theorem joinT_small (l : List (List UInt8)) (h : l.all nameB = true) : (joinT l).length ≤ l.length * 25 := by
  induction l with
  | nil => simp [joinT]
  | cons p ps ih =>
    simp only [List.all_cons, Bool.and_eq_true] at h
    have h1 := ih h.2
    have h2 := (name_parts h.1).2.2.2.2
    have e : (joinT (p :: ps)).length = p.length + 1 + (joinT ps).length := by simp [joinT]; omega
    rw [e, List.length_cons]
    omega
theorem joinL_small (l : List (List UInt8)) (h : l.all nameB = true) (hn : l.length ≤ 8) : (joinL l).length ≤ 201 := by
  have := joinT_small l h
  unfold joinL
  split
  · simp
  · omega
/-- Two results: a text and an error. -/
def Joins (w : World) (t : List UInt8) (x : Int) (e : Ending) (w' : World) : Prop := e = .returned (.tuple #[.string (bs t), .int .i64 x]) ∧ Below w.heap.size w w'
theorem libJoin_any (A : Option Addr) (n c B : Nat) (l : List (List UInt8)) (w : World) (h : Strs w B A n c l) (hB : B ≤ w.heap.size) (hn : n ≤ 8) (hj : (Lib.join l [47]).length ≤ 1000000) :
    Calls Try.prog 26 #[.slice A n c, .string ⟨#[47]⟩] w fun e w' => e = .returned (.string (bs (Lib.join l [47]))) ∧ Below w.heap.size w w' := by
  obtain rfl := h.len
  rcases Nat.eq_zero_or_pos l.length with h0 | h0
  · have e : l = [] := List.length_eq_zero_iff.1 h0
    subst e
    refine (Try.strings_Join_none A c _ w).mono ?_
    rintro e w' ⟨rfl, rfl⟩
    exact ⟨rfl, Below.refl _ _⟩
  · obtain ⟨b, off, rfl, hb, hc⟩ := h.at_ h0
    have e1 : (l.map bs).map (·.data.toList) = l := by
      rw [List.map_map]
      exact List.map_id _
    have hlen : (l.map bs).length = l.length := List.length_map _
    have hh := Try.strings_Join b off c (l.map bs) ⟨#[47]⟩ w (fun j x hx => by
      have hj : j < l.length := by
        have := (List.getElem?_eq_some_iff.1 hx).1
        simpa using this
      rw [hc j hj]
      rw [List.getElem?_map, List.getElem?_eq_getElem hj] at hx
      simp only [Option.map_some, Option.some.injEq] at hx
      rw [List.getElem?_eq_getElem hj, ← hx]
      rfl) (by omega) (by rw [hlen]; omega) (by rw [hlen]; exact h.cap) (by
        rw [e1]
        show (Lib.join l [47]).length ≤ _
        omega)
    rw [e1, hlen] at hh
    exact hh
set_option maxHeartbeats 1000000 in
theorem pathJoin_any (A : Option Addr) (n c B : Nat) (l : List (List UInt8)) (w : World) (h : Strs w B A n c l) (hB : B ≤ w.heap.size) :
    Calls Try.prog 16 #[.slice A n c] w (Joins w (joinS l) (joinE l)) := by
  have H := Lib.hid h
  have hcap := h.cap
  have hlim := h.lim
  have hlen := h.len
  unfold maxLen at hlim
  clear h
  by_cases h8 : 8 < n
  · have HE : Hid (joinE l = 4) := by show _ = _; unfold joinE; rw [if_pos (by omega)]
    have HS : Hid (joinS l = []) := by show _ = _; unfold joinS; rw [if_neg (by rw [HE.out]; decide)]
    have HLN := Lib.hid hlen
    clear hlen
    go_enter Try.func16, Try.ntmps16
    go_wp2
    go_ret2
    rw [HE.out, HS.out]
    exact ⟨rfl, Below.refl _ _⟩
  · have HLN := Lib.hid hlen
    clear hlen
    go_enter Try.func16, Try.ntmps16
    go_wp2
    go_loopw [12] (fun i wr => ∃ k : Nat, k ≤ n ∧ i = .int .i64 k ∧ Hid ((l.take k).all nameB = true) ∧ Hid (Below w.heap.size w wr)) (fun i _ => n - (intOf i).toNat)
    case atStart => exact ⟨0, Nat.zero_le _, rfl, rfl, Below.refl _ _⟩
    case round =>
      obtain ⟨k, hk, rfl, HA, HB⟩ := hrel
      by_cases hlt : k < n
      · obtain ⟨b, off, rfl, hb, hcell⟩ := (H.out.below (HB.out.mono hB)).cell hlt
        have hz := HB.out.size
        have hkl : k < l.length := by rw [HLN.out]; exact hlt
        have HT := Lib.hid (all_takeN hkl)
        by_cases hs : nameB (l[k]?.getD []) = false
        · have HN := Lib.hid (all_notN hkl hs)
          have HE : Hid (joinE l = 6) := by show _ = _; unfold joinE; rw [if_neg (by rw [HLN.out]; omega), if_pos HN.out]
          have HS : Hid (joinS l = []) := by show _ = _; unfold joinS; rw [if_neg (by rw [HE.out]; decide)]
          have H3 := Lib.hid hs
          clear hs
          generalize l[k]?.getD [] = p at *
          go_wp2_with (go_at_call 14; refine (pathName_any _ _).mono ?_; rintro e w2 ⟨rfl, hb2⟩; rw [bs_data, H3.out])
          go_ret2
          rw [HE.out, HS.out]
          exact ⟨rfl, HB.out.trans (hb2.mono hz)⟩
        · have H3 : Hid (nameB (l[k]?.getD []) = true) := by show _ = _; simpa using hs
          clear hs
          generalize l[k]?.getD [] = p at *
          go_wp2_with (go_at_call 14; refine (pathName_any _ _).mono ?_; rintro e w2 ⟨rfl, hb2⟩; rw [bs_data, H3.out])
          go_roundw
          case rel => exact ⟨k + 1, by omega, by go_num, show _ = _ by rw [HT.out, HA.out, H3.out]; rfl, HB.out.trans (hb2.mono hz)⟩
          case measure => simp [intOf]; omega
      · obtain rfl : k = n := by omega
        have HAll : Hid (l.all nameB = true) := by
          show _ = _
          have := HA.out
          rwa [List.take_of_length_le (by rw [HLN.out]; omega)] at this
        have hsm := joinL_small l HAll.out (by rw [HLN.out]; omega)
        have HJ := Lib.hid (join_eq l)
        have hj2 : (Lib.join l [47]).length + 1 ≤ 201 := by
          have := congrArg List.length (join_eq l)
          rw [List.length_cons] at this
          omega
        have hz := HB.out.size
        have HAdd : Hid ((⟨#[47]⟩ : ByteArray) ++ bs (Lib.join l [47]) = bs (joinL l)) := by
          show _ = _
          rw [← join_eq, show (⟨#[47]⟩ : ByteArray) = bs [47] from rfl, bs_app]
          rfl
        have hsz : (bs (Lib.join l [47])).size ≤ 200 := by rw [bs_size]; omega
        go_wp2_with fail
        refine (libJoin_any _ _ _ B l wr (H.out.below (HB.out.mono hB)) (by omega) (by omega) (by omega)).mono ?_
        rintro e w2 ⟨rfl, hb2⟩
        have HB2 := Lib.hid (HB.out.trans (hb2.mono hz))
        have hadd := HAdd.out
        by_cases h96 : 96 < (joinL l).length
        · have HE : Hid (joinE l = 17) := by show _ = _; unfold joinE; rw [if_neg (by rw [HLN.out]; omega), if_neg (by rw [HAll.out]; decide), if_pos h96]
          have HS : Hid (joinS l = []) := by show _ = _; unfold joinS; rw [if_neg (by rw [HE.out]; decide)]
          have hq : 96 < (bs (joinL l)).size := by rw [bs_size]; exact h96
          go_wp2
          go_ret2
          rw [HE.out, HS.out]
          exact ⟨rfl, HB2.out⟩
        · have HE : Hid (joinE l = 0) := by show _ = _; unfold joinE; rw [if_neg (by rw [HLN.out]; omega), if_neg (by rw [HAll.out]; decide), if_neg h96]
          have HS : Hid (joinS l = joinL l) := by show _ = _; unfold joinS; rw [if_pos HE.out]
          have hq : (bs (joinL l)).size ≤ 96 := by rw [bs_size]; omega
          go_wp2
          go_ret2
          rw [HE.out, HS.out]
          exact ⟨rfl, HB2.out⟩
end Go.Proofs.Ytkkfndilgoamkaa
