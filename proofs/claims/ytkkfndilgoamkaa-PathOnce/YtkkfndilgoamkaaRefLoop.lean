/- ref.Split, walked: the loop. -/
import Derived.Test.YtkkfndilgoamkaaRefSplit
namespace Go.Proofs.Ytkkfndilgoamkaa
open Go.RowKit
set_option linter.unusedVariables false

def Copies (w : World) (base : Nat) (v : Value) (ns : List (List UInt8)) (v' : Value) (w' : World) : Prop :=
  (Builtin.append_ #[22, 22] 22 #[.slice (some ⟨w.heap.size, 0, none⟩) 0 0, v]).run Try.prog (w.alloc (.cells #[] 9)) = .ok v' w' ∧ Own w' base v' ns ∧ ∀ w0, Below base w0 w → Below base w0 w'
theorem app_copy {w : World} {base : Nat} {v : Value} {ns : List (List UInt8)} (h : Own w base v ns) (hn : ns.length ≤ 8) (hb : base ≤ w.heap.size) : ∃ v' w', Copies w base v ns v' w' := by
  obtain ⟨i0, hi, hz0, hz1, hz2⟩ := info_parts str_info
  obtain ⟨A, c, rfl, hs⟩ := h.strs
  have h0 : (w.alloc (.cells #[] 9)).ownsRow base 9 1 (.slice (some ⟨w.heap.size, 0, none⟩) 0 0) 0 [] := World.ownsRow_made (base := base) (e := 9) (size := 1) w #[] 0 hb (by decide) rfl
  have hb' : ∀ w0, Below base w0 w → Below base w0 (w.alloc (.cells #[] 9)) := fun w0 h0 => h0.alloc hb _
  rcases A with _ | a
  · have hc := hs.nil rfl
    subst hc
    have e0 : ns = [] := List.length_eq_zero_iff.1 (by have := hs.cap; omega)
    subst e0
    refine ⟨_, _, ?_, h0, hb'⟩
    simp [Builtin.append_, run_underlying Try.underlying22, sizeOf, typeInfo, hi, Builtin.lenOf, Builtin.firstCells, storeCells]
  · obtain ⟨v', w', hr, h2, h3, _⟩ := run_append_own (P := Try.prog) (w.alloc (.cells #[] 9)) base 22 22 9 i0 _ 1 16 Try.underlying22 hi hz0 hz1 hz2 rfl (by decide) _ 0 [] h0 a ns.length c (ns.map sv) (by simp)
      (fun j u hu => by
        have hj : j < ns.length := by
          have := (List.getElem?_eq_some_iff.1 hu).1
          simpa using this
        obtain ⟨b, off, e, hbb, hcell⟩ := hs.at_ (by omega)
        cases e
        rw [Addr.add_lit, ((Below.refl _ w).alloc (Nat.le_refl _) _).cell hbb, hcell j hj, ← hu]
        simp [hj, sv]) (fun u hu => by
          obtain ⟨b, _, rfl⟩ := List.mem_map.1 hu
          rfl) (by unfold maxLen; omega) (by omega) (by simp; omega)
    refine ⟨v', w', hr, by simpa [Own] using h2, fun w0 hw0 => ?_⟩
    exact (hb' w0 hw0).grown h3 (by simp; omega) (fun j hj => (h0.lt j hj).1)
theorem Own.zero {w : World} {base : Nat} (hb : base ≤ w.heap.size) : Own (w.alloc (.cells #[] 9)) base (.slice (some ⟨w.heap.size, 0, none⟩) 0 0) [] := World.ownsRow_made (base := base) (e := 9) (size := 1) w #[] 0 hb (by decide) rfl
/-- What holds at the loop's head. -/
def Turn (w : World) (s : List UInt8) (R : List (List UInt8) × Int) (o f i : Value) (wr : World) : Prop := ∃ (k fr : Nat) (ns : List (List UInt8)), i = .int .i64 k ∧ f = .int .i64 fr ∧ 1 ≤ fr ∧ fr ≤ k ∧ k ≤ s.length + 1 ∧ (k = s.length + 1 → fr = s.length + 1) ∧ 47 ∉ (s.drop fr).take (k - fr) ∧ goes ns (pend s fr) = R ∧ ns.length ≤ 8 ∧ Own wr w.heap.size o ns ∧ Below w.heap.size w wr
set_option maxHeartbeats 4000000 in
set_option maxRecDepth 100000 in
theorem refSplit_loop (s r : List UInt8) (w : World) (hl : ¬ 96 < s.length) (hr : s = 47 :: r) : Calls Try.prog 11 #[.string (bs s)] w (Splits w (goes [] (parts r))) := by
  have HL : Hid ((bs s).size = s.length) := bs_size s
  have hs : (bs s).size ≤ 96 := by rw [bs_size]; omega
  have hs0 : 1 ≤ (bs s).size := by rw [bs_size, hr]; simp
  have HP : Hid (goes [] (pend s 1) = goes [] (parts r)) := by
    show _ = _
    unfold pend
    rw [hr, if_pos (by simp)]
    rfl
  have hc0 : (bs s)[0]'(by omega) = 47 := by
    rw [bs_get s 0 _ (by rw [hr]; simp)]
    simp [hr]
  have hd0 : (((bs s).size : Int) == 0) = false := by rw [beq_eq_false_iff_ne]; omega
  have hd1 : ¬ bs s = ByteArray.empty := fun e => by rw [e] at hs0; exact absurd hs0 (by decide)
  have hd2 : 0 < (bs s).size := by omega
  clear hr
  go_enter Try.func11, Try.ntmps11
  go_wp2
  go_loopw [4, 5, 6] (fun o f i wr => Turn w s (goes [] (parts r)) o f i wr) (fun _ _ i _ => s.length + 1 - (intOf i).toNat)
  case atStart => exact ⟨1, 1, [], rfl, rfl, by omega, by omega, by omega, fun h => by omega, by simp, HP.out, by simp, Own.zero (Nat.le_refl _), (Below.refl _ _).alloc (Nat.le_refl _) _⟩
  case round =>
    obtain ⟨k, fr, ns, rfl, rfl, hf1, hf2, hk1, hk2, hno, hR, hn, ho, hb⟩ := hrel
    have HN := Lib.hid hno
    have HR := Lib.hid hR
    have HO := Lib.hid ho
    have HB := Lib.hid hb
    have HK := Lib.hid hk2
    have HC0 := Lib.hid hc0
    clear hno hR ho hb hk2 hc0 HP hd0 hd1 hd2
    by_cases hlt : k ≤ s.length
    · by_cases hgo : ∃ h : k < s.length, ¬ s[k] = 47
      · obtain ⟨hk, hne⟩ := hgo
        have HN2 := Lib.hid (not_more hf2 hk hne HN.out)
        have hks : k < (bs s).size := by rw [HL.out]; exact hk
        have hg : ((((bs s)[k]'hks).toNat : Int) == 47) = false := by
          rw [bs_get s k hks hk]
          simp
          intro e
          exact hne (UInt8.toNat_inj.1 (by show _ = 47; omega))
        clear hne
        go_wp2
        go_roundw
        case rel => exact ⟨k + 1, fr, ns, by go_num, rfl, hf1, by omega, by omega, fun h => by omega, HN2.out, HR.out, hn, HO.out, HB.out⟩
        case measure => simp [intOf]; omega
      · have hcase : (∃ h : k < s.length, s[k] = 47) ∨ k = s.length := by
          by_cases h : k < s.length
          · exact .inl ⟨h, Classical.not_not.1 fun hc => hgo ⟨h, hc⟩⟩
          · exact .inr (by omega)
        clear hgo
        have HPD : Hid (pend s fr = (s.drop fr).take (k - fr) :: pend s (k + 1)) := by
          rcases hcase with ⟨h, hc⟩ | rfl
          · exact pend_cut hf2 h hc HN.out
          · exact pend_end hf2 HN.out
        have hext := bs_extract s fr k
        have i1 : fr ≤ k := hf2
        have i2 : k ≤ (bs s).size := by rw [HL.out]; exact hlt
        have HR1 : Hid (goes ns ((s.drop fr).take (k - fr) :: pend s (k + 1)) = goes [] (parts r)) := by
          show _ = _
          rw [← HPD.out]
          exact HR.out
        clear HPD HR HN
        generalize (s.drop fr).take (k - fr) = p at *
        have HT : Hid (∀ (ns' : List (List UInt8)) (v' : Value) (w' : World), goes ns' (pend s (k + 1)) = goes [] (parts r) → ns'.length ≤ 8 → Own w' w.heap.size v' ns' → Below w.heap.size w w' → Turn w s (goes [] (parts r)) v' (.int .i64 ((k : Int) + 1)) (.int .i64 ((k : Int) + 1)) w') := by
          intro ns' v' w' a b c d
          exact ⟨k + 1, k + 1, ns', by go_num, by go_num, by omega, by omega, by omega, fun h => h, by simp, a, b, c, d⟩
        obtain ⟨A, c, rfl, hc1, hc2⟩ := HO.out.form
        unfold maxLen at hc2
        have hlist := bs_list p
        have hd : (∃ h : k < (bs s).size, ((((bs s)[k]'h).toNat : Int) == 47) = true) ∨ ¬ k < (bs s).size := by
          rcases hcase with ⟨h, hc⟩ | e
          · exact .inl ⟨by rw [HL.out]; exact h, by rw [bs_get s k _ h, hc]; rfl⟩
          · exact .inr (by rw [HL.out]; omega)
        clear hcase
        by_cases h1 : p = [46, 46]
        · subst h1
          have HR2 : Hid (goes ns.dropLast (pend s (k + 1)) = goes [] (parts r)) := by
            have := HR1.out
            rwa [goes_up] at this
          clear HR1 hlist
          have hD := Lib.hid HO.out.drop
          have k1 : (bs [46, 46]).toList = [46, 46] := bs_list _
          by_cases h0 : ns.length = 0
          · have hD' : Hid (Own wr w.heap.size (.slice A ns.length c) ns.dropLast) := by
              have := hD.out
              rwa [show ns.length - 1 = ns.length by omega] at this
            have k5 : ¬ 0 < ns.length := by omega
            clear h0
            rcases hd with ⟨hks, hg⟩ | hks
            all_goals
              go_wp2
              go_roundw
              case rel => exact HT.out _ _ _ HR2.out (by simp; omega) hD'.out HB.out
              case measure => simp [intOf]; omega
          · have k5 : 0 < ns.length := by omega
            have k6 : ((ns.length : Int) - 1).toNat = ns.length - 1 := by omega
            clear h0
            rcases hd with ⟨hks, hg⟩ | hks
            all_goals
              go_wp2
              go_roundw
              case rel => exact HT.out _ _ _ HR2.out (by simp; omega) hD.out HB.out
              case measure => simp [intOf]; omega
        by_cases h2 : p = [] ∨ p = [46]
        · have HR2 : Hid (goes ns (pend s (k + 1)) = goes [] (parts r)) := by
            have := HR1.out
            rwa [goes_skip h1 h2] at this
          clear HR1 hlist
          rcases h2 with rfl | rfl
          · have k1 : (bs []).toList = [] := bs_list _
            clear h1
            rcases hd with ⟨hks, hg⟩ | hks
            all_goals
              go_wp2
              go_roundw
              case rel => exact HT.out _ _ _ HR2.out hn HO.out HB.out
              case measure => simp [intOf]; omega
          · have k1 : (bs [46]).toList = [46] := bs_list _
            clear h1
            rcases hd with ⟨hks, hg⟩ | hks
            all_goals
              go_wp2
              go_roundw
              case rel => exact HT.out _ _ _ HR2.out hn HO.out HB.out
              case measure => simp [intOf]; omega
        have k1 : ((bs p).toList == [46, 46]) = false := by rw [hlist]; simpa using h1
        have k2 : ((bs p).toList == [46]) = false := by rw [hlist]; simp at h2 ⊢; exact h2.2
        have k3 : (bs p).toList.isEmpty = false := by rw [hlist]; simp at h2 ⊢; exact h2.1
        have hz := HB.out.size
        by_cases h3 : nameB p = false
        · have HR2 : Hid (goes [] (parts r) = ([], 6)) := by
            have := HR1.out
            rw [goes_bad h1 h2 h3] at this
            exact this.symm
          clear HR1 hlist h1 h2
          have H3 := Lib.hid h3
          clear h3
          rcases hd with ⟨hks, hg⟩ | hks
          all_goals
            go_wp2_with (go_at_call 15; refine (refName_any _ _).mono ?_; rintro e w2 ⟨rfl, rfl⟩; rw [bs_data, H3.out])
            go_ret2
            rw [HR2.out]
            exact Splits.none HB.out
        · have H3 : Hid (nameB p = true) := by show _ = _; simpa using h3
          obtain ⟨v1, w1, hap1, ho1, hbe1⟩ := app_copy HO.out hn hz
          have hz1 := (hbe1 w HB.out).size
          obtain ⟨v2, w2, hap2, ho2, hbe2⟩ := app_one p ho1 hn hz1
          have HA1 := Lib.hid hap1
          have HA2 := Lib.hid hap2
          have HO2 := Lib.hid ho2
          have HB2 := Lib.hid (hbe2 w (hbe1 w HB.out))
          clear hap1 hap2 ho1 ho2 hbe1 hbe2
          obtain ⟨A2, c2, rfl, hc3, hc4⟩ := HO2.out.form
          rw [show (ns ++ [p]).length = ns.length + 1 by simp] at *
          unfold maxLen at hc4
          by_cases h4 : ns.length = 8
          · have HR2 : Hid (goes [] (parts r) = ([], 4)) := by
              have := HR1.out
              rw [goes_deep h1 h2 H3.out h4] at this
              exact this.symm
            have k4 : 8 < ns.length + 1 := by omega
            clear HR1 hlist h1 h2 h3 h4
            rcases hd with ⟨hks, hg⟩ | hks
            all_goals
              go_wp2_with (first
                | (go_at_call 15; refine (refName_any _ _).mono ?_; rintro e w2 ⟨rfl, rfl⟩; rw [bs_data, H3.out])
                | (at_builtin; first
                  | refine Lib.wpList_append_run _ rfl _ _ _ _ rfl _ _ rfl rfl _ _ HA1.out ?_
                  | refine Lib.wpList_append_run _ rfl _ _ _ _ rfl _ _ rfl rfl _ _ HA2.out ?_))
              go_ret2
              rw [HR2.out]
              exact Splits.none HB2.out
          · have HR2 : Hid (goes (ns ++ [p]) (pend s (k + 1)) = goes [] (parts r)) := by
              have := HR1.out
              rwa [goes_name H3.out h4] at this
            have k4 : ¬ 8 < ns.length + 1 := by omega
            have k7 : ns.length + 1 ≤ 8 := by omega
            clear HR1 hlist h1 h2 h3 h4
            rcases hd with ⟨hks, hg⟩ | hks
            all_goals
              go_wp2_with (first
                | (go_at_call 15; refine (refName_any _ _).mono ?_; rintro e w2 ⟨rfl, rfl⟩; rw [bs_data, H3.out])
                | (at_builtin; first
                  | refine Lib.wpList_append_run _ rfl _ _ _ _ rfl _ _ rfl rfl _ _ HA1.out ?_
                  | refine Lib.wpList_append_run _ rfl _ _ _ _ rfl _ _ rfl rfl _ _ HA2.out ?_))
              go_roundw
              case rel => exact HT.out _ _ _ HR2.out (by simp; omega) HO2.out HB2.out
              case measure => simp [intOf]; omega
    · have e1 : fr = s.length + 1 := HK.out (by omega)
      have HE : Hid (goes [] (parts r) = (ns, 0)) := by
        have := HR.out
        unfold pend at this
        rw [e1, if_neg (by omega)] at this
        exact this.symm
      have hgt : ¬ k ≤ (bs s).size := by rw [HL.out]; omega
      clear e1
      go_wp2
      go_ret2
      rw [HE.out]
      exact Splits.own HO.out HB.out
end Go.Proofs.Ytkkfndilgoamkaa
