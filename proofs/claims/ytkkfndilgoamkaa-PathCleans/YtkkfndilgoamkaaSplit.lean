/- path.Split, walked: the loop. -/
import Derived.Test.YtkkfndilgoamkaaSplitA
namespace Go.Proofs.Ytkkfndilgoamkaa
open Go.RowKit
set_option linter.unusedVariables false
set_option maxHeartbeats 2000000 in
set_option maxRecDepth 100000 in
theorem split_loop (s r : List UInt8) (w : World) (hl : ¬ 96 < s.length) (hr : s = 47 :: r) : Calls Try.prog 10 #[.string (bs s)] w (Splits w (goes [] (parts r))) := by
  have hs : (bs s).size ≤ 96 := by rw [bs_size]; omega
  have HP : Hid (Lib.hasPrefix (bs s).data.toList (⟨#[47]⟩ : ByteArray).data.toList = true) := by
    show _ = _
    rw [bs_data, hr]
    rfl
  have HE : Hid ((⟨(Lib.trimPrefix (bs s).data.toList (⟨#[47]⟩ : ByteArray).data.toList).toArray⟩ : ByteArray) = bs r) := by
    show _ = _
    unfold Lib.trimPrefix
    rw [if_pos HP.out, bs_data, hr]
    rfl
  have hrl : r.length ≤ 96 := by rw [hr] at hl; simp at hl; omega
  clear hr
  go_enter Try.func10, Try.ntmps10
  go_wp2
  refine wp_scope_loop 0 (Jmp w (.string (bs s)) (goes [] (parts r))) meas rfl ?_ ?_
  · intro key
    go_wp2_with (go_at_call 21; refine (Try.strings_CutPrefix _ _ _).mono ?_; rintro e w' ⟨rfl, rfl⟩; rw [HP.out, HE.out])
    rename_i hK
    go_step3
    exact hK _ _ (key _ _ (Jmp.mk (ns := []) (Below.refl _ _) (by simp [todo]) hrl (by simp) (Own.nil _ _)))
  · rintro a' w' ⟨hb, m, l, ns, v, hR, hl2, hn, hown, u7, u8, u9, u10, u11, u12, u13, u14, u15, u16, u17, u18, u19, u20, u21, u22, u23, u24, u25, u26, u27, u28, u29, u30, u31, u32, u33, u34, u35, u36, u37, u38, u39, u40, u41, u42, u43, u44, u45, u46, u47, u48, u49, rfl⟩
    have HO := Lib.hid hown
    have HB := Lib.hid hb
    have HR := Lib.hid hR
    clear hown hb hR
    cases m with
    | false =>
      go_wp2
      simp only [Exit.jump]
      go_ret2
      have : goes [] (parts r) = (ns, 0) := HR.out.symm
      rw [this]
      exact Splits.own HO.out HB.out
    | true =>
      have hln : (bs l).size = l.length := bs_size l
      have HLN := Lib.hid hln
      clear hln
      go_wp2_with fail
      refine (cut_any l w' (by omega)).mono ?_
      rintro e w1 ⟨p, q, m, rfl, hp, hm, hq, hb1⟩
      have HO1 := Lib.hid (HO.out.below hb1)
      have HB1 := Lib.hid (HB.out.trans (hb1.mono HB.out.size))
      have HR1 : Hid (goes ns (p :: todo m q) = goes [] (parts r)) := by
        show _ = _
        rw [← hp]
        exact HR.out
      have HM := Lib.hid hm
      clear HO HB HR hp hb1 hm
      have hql : q.length ≤ 96 := by omega
      obtain ⟨A, c, rfl, hc1, hc2⟩ := HO1.out.form
      unfold maxLen at hc2
      have hlist := bs_list p
      by_cases h1 : p = [46, 46]
      · subst h1
        have HR2 : Hid (goes ns.dropLast (todo m q) = goes [] (parts r)) := by
          have := HR1.out
          rwa [goes_up] at this
        clear HR1 hlist
        have hD := Lib.hid HO1.out.drop
        have k1 : (bs [46, 46]).toList = [46, 46] := bs_list _
        go_wp2
        rw [show (max ((ns.length : Int) - 1) 0).toNat = ns.length - 1 by omega]
        go_step3
        exact ⟨rfl, Jmp.mk HB1.out HR2.out hql (by simp; omega) hD.out, meas_lt HM.out⟩
      by_cases h2 : p = [] ∨ p = [46]
      · have HR2 : Hid (goes ns (todo m q) = goes [] (parts r)) := by
          have := HR1.out
          rwa [goes_skip h1 h2] at this
        clear HR1 hlist
        rcases h2 with rfl | rfl
        · have k1 : (bs []).toList = [] := bs_list _
          clear h1
          go_wp2
          go_step3
          exact ⟨rfl, Jmp.mk HB1.out HR2.out hql hn HO1.out, meas_lt HM.out⟩
        · have k1 : (bs [46]).toList = [46] := bs_list _
          clear h1
          go_wp2
          go_step3
          exact ⟨rfl, Jmp.mk HB1.out HR2.out hql hn HO1.out, meas_lt HM.out⟩
      have k1 : ((bs p).toList == [46, 46]) = false := by rw [hlist]; simpa using h1
      have k2 : ((bs p).toList == [46]) = false := by rw [hlist]; simp at h2 ⊢; exact h2.2
      have k3 : (bs p).toList.isEmpty = false := by rw [hlist]; simp at h2 ⊢; exact h2.1
      have hz := HB1.out.size
      by_cases h3 : nameB p = false
      · have HR2 : Hid (goes [] (parts r) = ([], 6)) := by
          have := HR1.out
          rw [goes_bad h1 h2 h3] at this
          exact this.symm
        clear HR1 hlist h1 h2
        have H3 := Lib.hid h3
        clear h3
        go_wp2_with (go_at_call 14; refine (pathName_any _ _).mono ?_; rintro e w2 ⟨rfl, hb2⟩; rw [bs_data, H3.out])
        simp only [Exit.jump]
        go_ret2
        rw [HR2.out]
        exact Splits.none (HB1.out.trans (hb2.mono hz))
      · have H3 : Hid (nameB p = true) := by show _ = _; simpa using h3
        by_cases h4 : ns.length = 8
        · have HR2 : Hid (goes [] (parts r) = ([], 4)) := by
            have := HR1.out
            rw [goes_deep h1 h2 H3.out h4] at this
            exact this.symm
          clear HR1 hlist h1 h2 h3
          go_wp2_with (go_at_call 14; refine (pathName_any _ _).mono ?_; rintro e w2 ⟨rfl, hb2⟩; rw [bs_data, H3.out])
          simp only [Exit.jump]
          go_ret2
          rw [HR2.out]
          exact Splits.none (HB1.out.trans (hb2.mono hz))
        · have HR2 : Hid (goes (ns ++ [p]) (todo m q) = goes [] (parts r)) := by
            have := HR1.out
            rwa [goes_name H3.out h4] at this
          have k4 : ((ns.length : Int) == 8) = false := by simp; omega
          clear HR1 hlist h1 h2 h3
          go_wp2_with fail
          refine (pathName_any _ _).mono ?_
          rintro e w2 ⟨rfl, hb2⟩
          rw [bs_data, H3.out]
          obtain ⟨v', w3, hap, ho, hbe⟩ := app_one p (HO1.out.below hb2) hn (Nat.le_trans hz hb2.size)
          have HA := Lib.hid hap
          have HO3 := Lib.hid ho
          have HB3 := Lib.hid (hbe w (HB1.out.trans (hb2.mono hz)))
          clear hap ho hbe
          go_wp2_with (at_builtin; refine Lib.wpList_append_run _ rfl _ _ _ _ rfl _ _ rfl rfl _ _ HA.out ?_)
          go_step3
          exact ⟨rfl, Jmp.mk HB3.out HR2.out hql (by simp; omega) HO3.out, meas_lt HM.out⟩
end Go.Proofs.Ytkkfndilgoamkaa
