/- For every term, gone, wish and other, DialLonger returns true: what Longer tells is long enough for any two clocks that keep step, and one less is not. No condition. -/
import Derived.Test.YtmddligabdhiiaaRows
import Derived.Test.YtmddligabdhiiaaKeeps
import Derived.WalkKit
import Derived.ProofKit
import Derived.OpenShut
namespace Go.Proofs.Ytmddligabdhiiaa.dialLonger
open Go.ChangeShapes Go.WideShapes Go.ChangeAt Go.RowKit
set_option linter.unusedVariables false      -- a walk need not use every 'w<i>' (that an integer argument fits its kind)

theorem own : ownKnob Try.prog.godebug = none := by kernel_rfl

/-! ### STEP 1: THE WALK: the Go text returns true. 'Grown w w'': the world has at most new blocks (Derived/RowKit3.lean). Part the cases AHEAD of 'go_enter' where a test parts the walk; take each callee by a contract of your own. -/
theorem longer_key (T g a b t : Int) (ht : T * 5 / 4 * 5 / 4 + 1 = t) (ha : a ≤ T) (h1 : 4 * g ≤ 5 * a) (h2 : 4 * b ≤ 5 * g) : b < t := by
  have hm : g ≤ T * 5 / 4 := by omega
  generalize T * 5 / 4 = m at *
  omega
theorem longer_same (T t : Int) (ht : T * 5 / 4 * 5 / 4 + 1 = t) : t = 5 * (5 * T / 4) / 4 + 1 := by
  rw [show 5 * T = T * 5 from by omega, show 5 * (T * 5 / 4) = T * 5 / 4 * 5 from by omega]; exact ht.symm
theorem longer_bd (T t : Int) (ht : T * 5 / 4 * 5 / 4 + 1 = t) (h0 : 0 ≤ T) (h1 : T ≤ 1099511627775) : 1 ≤ t ∧ t ≤ 2000000000000 := by
  have hm : 0 ≤ T * 5 / 4 ∧ T * 5 / 4 ≤ 1374389534720 := by omega
  generalize T * 5 / 4 = m at *
  omega
theorem longer_low (T : Int) (h0 : 0 ≤ T) : 4 * T ≤ 5 * (5 * T / 4) := by
  by_cases h : T ≤ 2
  · have : T = 0 ∨ T = 1 ∨ T = 2 := by omega
    rcases this with rfl | rfl | rfl <;> decide
  · omega

set_option maxHeartbeats 1000000 in
theorem walk (a0 : Int) (a1 : Int) (a2 : Int) (a3 : Int) (w0 : (Lit.int .i64 a0).wf = true) (w1 : (Lit.int .u32 a1).wf = true) (w2 : (Lit.int .i64 a2).wf = true) (w3 : (Lit.int .i64 a3).wf = true) (w : World) :
    Calls Try.prog 4 #[.int .i64 a0, .int .u32 a1, .int .i64 a2, .int .i64 a3] w fun e w' => e = .returned (.bool true) ∧ Grown w w' := by
  by_cases hr : a0 < 1 ∨ 1099511627776 < a0
  · by_cases hl : a0 < 1
    all_goals
      go_enter Try.func4, Try.ntmps4
      go_wp2_with (first | (go_at_call 8; refine (longer_no _ _ hr).mono ?_; rintro e w' ⟨rfl, rfl⟩) | (go_at_call 6; refine (awake_any _).mono ?_; rintro e w' ⟨rfl, rfl⟩))
      all_goals
        go_ret
        exact ⟨rfl, by repeat (first | exact Grown.refl _ | apply Grown.drew | apply Grown.alloc)⟩
  · have t0 : 1 ≤ a0 := by omega
    have t1 : a0 ≤ 1099511627776 := by omega
    have b1 := bounds_u32 w1
    have na := near_bd a1 a2 (by omega) (by omega)
    have nb := near_bd a1 a3 (by omega) (by omega)
    generalize hna : near a1 a2 = a at *
    generalize hnb : near a1 a3 = b at *
    have HA : Hid (near a1 a2 = a) := hna
    have HB : Hid (near a1 a3 = b) := hnb
    obtain ⟨na0, na1, na2, na3⟩ := na
    obtain ⟨nb0, nb1, nb2, nb3⟩ := nb
    clear hna hnb hr w1
    generalize ht : (a0 - 1) * 5 / 4 * 5 / 4 + 1 = t at *
    have tb := longer_bd (a0 - 1) t ht (by omega) (by omega)
    have key : a < a0 → b < t := fun h => longer_key (a0 - 1) a1 a b t ht (by omega) na2 nb3
    have tq : (t == 5 * (5 * (a0 - 1) / 4) / 4 + 1) = true := beq_iff_eq.2 (longer_same (a0 - 1) t ht)
    have lo := longer_low (a0 - 1) (by omega)
    have HQ : Hid ((t == 5 * (5 * (a0 - 1) / 4) / 4 + 1) = true) := tq
    have HT : Hid ((a0 - 1) * 5 / 4 * 5 / 4 + 1 = t) := ht
    clear ht tq
    generalize hm : 5 * (a0 - 1) / 4 = m at *
    have mb : 0 ≤ m ∧ m ≤ 1374389534720 ∧ 4 * m ≤ 5 * (a0 - 1) := by omega
    have HM : Hid (5 * (a0 - 1) / 4 = m) := hm
    clear hm
    by_cases hlt : a < a0
    all_goals
      try have hbt := key hlt
      clear key
      go_enter Try.func4, Try.ntmps4
      go_wp2_with fail
      refine (longer_yes _ _ t0 t1).mono ?_
      rintro e w' ⟨rfl, rfl⟩
      rw [HT.out]
      go_wp2_with fail
      refine (near_yes _ _ _ (by omega) (by omega)).mono ?_
      rintro e w' ⟨rfl, rfl⟩
      rw [HA.out]
      go_wp2_with fail
      refine (near_yes _ _ _ (by omega) (by omega)).mono ?_
      rintro e w' ⟨rfl, rfl⟩
      rw [HB.out]
      go_wp2_with fail
      refine (awake_any _).mono ?_
      rintro e w' ⟨rfl, rfl⟩
      go_wp2_with fail
      rw [HM.out]
      refine (keeps_yes _ _ _ (by omega) (by omega) (by omega) (by omega) (by omega) (by omega)).mono ?_
      rintro e w' ⟨rfl, rfl⟩
      have HQ' := HQ.out
      go_wp2
      go_ret
      exact ⟨rfl, by repeat (first | exact Grown.refl _ | apply Grown.drew | apply Grown.alloc)⟩

/-! ### THE ROW's STEP: WRITTEN OUT: LEAVE IT -/
set_option maxRecDepth 100000 in
theorem lifted (os : Os) (started : os.Started) (H : Type) (enc : TypeId × Value → H) :
    ReturnsInHanded {} Try.checked os 4 .any (Rows.dialLongerSpec.pre6 enc Try.prog Try.f4 Rows.dialLongerRow.domain false) (Rows.dialLongerSpec.post enc Try.prog Try.f4 false true false false) := by
  refine returnsInHanded_of_change (C := Try.checked) own started (by kernel_rfl) Try.func4
    (ChangeSpec.witness6 (enc := enc) (C := Try.checked) false ⟨#[], #[.int .i64 0, .int .u32 0, .int .i64 0, .int .i64 0], []⟩ 8 (by kernel_rfl) (by kernel_rfl) (by kernel_rfl) (by kernel_rfl)) ?_
  intro W base args ds gs before hval0 hW hcnd _
  have hval : ∀ (j : Nat) t v, Try.f4.params[j]? = some t → args[j]? = some v → Value.okWide Try.prog W .any base t v := hval0
  have hW' := hW
  obtain ⟨p, q, hA0, hV, rfl, hfz, hnd⟩ := hW
  have hA : DataW.TrodAll enc Try.prog W 0 (fun _ => true) true Try.f4.params.toList args.toList ds p := hA0
  rw [Try.params4] at hA hval
  obtain ⟨v0, vs0, d0, ds0, p0, q0, hargs, rfl, rfl, h0, r0⟩ := trodAll_cons hA
  obtain ⟨v1, vs1, d1, ds1, p1, q1, rfl, rfl, rfl, h1, r1⟩ := trodAll_cons r0
  obtain ⟨v2, vs2, d2, ds2, p2, q2, rfl, rfl, rfl, h2, r2⟩ := trodAll_cons r1
  obtain ⟨v3, vs3, d3, ds3, p3, q3, rfl, rfl, rfl, h3, r3⟩ := trodAll_cons r2
  obtain ⟨rfl, rfl, rfl⟩ := trodAll_nil r3
  obtain rfl : args = #[v0, v1, v2, v3] := by cases args; simp_all
  obtain ⟨rfl, rfl⟩ := trodVars_none hV
  obtain ⟨a0, rfl, rfl, rfl, w0⟩ := open_int Try.underlying3 (hval 0 3 v0 rfl rfl) h0
  obtain ⟨a1, rfl, rfl, rfl, w1⟩ := open_int Try.underlying27 (hval 1 27 v1 rfl rfl) h1
  obtain ⟨a2, rfl, rfl, rfl, w2⟩ := open_int Try.underlying3 (hval 2 3 v2 rfl rfl) h2
  obtain ⟨a3, rfl, rfl, rfl, w3⟩ := open_int Try.underlying3 (hval 3 3 v3 rfl rfl) h3
  clear hA0 hval0
  simp only [List.append_nil] at hW'
  refine (walk a0 a1 a2 a3 w0 w1 w2 w3 W).mono fun e W' ⟨he, hg⟩ => ?_
  subst he
  exact ⟨_, rfl, post_of_same (pa := []) (pv := []) hW' (fun _ _ _ => (trodAll_cons_mk (shut_bool Try.underlying4 _) trodAll_mk0)) (fun sp _ => (trodAll_cons_mk (shut_int Try.underlying3 w0) (trodAll_cons_mk (shut_int Try.underlying27 w1) (trodAll_cons_mk (shut_int Try.underlying3 w2) (trodAll_cons_mk (shut_int Try.underlying3 w3) trodAll_mk0))))) (fun _ _ => rfl) rfl
    (hg.frame _) hg.2.1 (ok_one (by kernel_rfl) rfl (okWide_bool_mk Try.underlying4 _))⟩

theorem over : Rows.dialLongerRow.holds Try.pinned (OpenSpec.ofChange Rows.dialLongerSpec) :=
  OpenClaim.holds_of_wide 4 Try.f4 rfl rfl rfl rfl rfl rfl rfl ⟨rfl, rfl, rfl, rfl, rfl⟩ rfl rfl rfl rfl rfl (by kernel_rfl) Try.func4 (by kernel_rfl)
    (of_decide_eq_true (by kernel_rfl)) (by unfold Func.isWrapper; first | (rw [if_pos (by decide +kernel)]; kernel_rfl) | (rw [if_neg (by decide +kernel)]; exact ⟨rfl, rfl⟩))
    (fun os started H enc _ => lifted os started H enc)

/-- ████ THE STATEMENT ████ -/
theorem proved : Rows.DialLongerSaid :=
  over
#print axioms proved
end Go.Proofs.Ytmddligabdhiiaa.dialLonger
