/- redo.finish, Recover, walked. -/
import Derived.Test.YtlhkkelpombbiaaBody
namespace Go.Proofs.Ytlhkkelpombbiaa
open Go.RowKit
set_option linter.unusedVariables false

theorem flush_down {s : DS} (h : s.flush.1 = 0) : s.flush.2.down = false := by
  unfold DS.flush at h ⊢
  by_cases hd : s.down = true
  · simp [hd] at h
  · by_cases hp : s.pow = true
    · simp only [hd, hp]
      exact spend_down hp (by simpa using hd)
    · simp [hd, hp] at h
theorem settle_down {s : DS} (h : s.settle.1 = 0) : s.settle.2.down = false := by
  unfold DS.settle at h ⊢
  by_cases hd : s.down = true
  · simp [hd] at h
  · by_cases he : s.now[1]? = s.lasting[1]?
    · simp only [hd, he]
      simpa using hd
    · simp only [hd, he] at h ⊢
      exact flush_down h
theorem settle_since {s : DS} (h : s.settle.1 = 0) : s.settle.2.since.length ≤ s.since.length := by
  unfold DS.settle at h ⊢
  by_cases hd : s.down = true
  · simp [hd] at h
  · by_cases he : s.now[1]? = s.lasting[1]?
    · simp [hd, he]
    · simp only [hd, he] at h ⊢
      have := flush_since (s := s) h
      simp [this]
set_option maxRecDepth 20000 in
set_option maxHeartbeats 1000000 in
theorem finish_any {w : World} {d : Nat} {O : List Nat} {N : Nat} {s : DS} {M : Nat → Prop} {A : Option Addr} {n c : Nat} {ns : List Int} (h : Drv w d O N s)
    (hI : Ints w M A n c ns) (hM : Free w O M) (hn : n ≤ 24) (hb : s.since.length ≤ 1000000) :
    Calls Try.prog 44 #[.pointer (some ⟨d, 0, none⟩), .slice A n c] w fun e w' => e = .returned (.int .i64 (s.finish N ns).1) ∧ Did w d O N (s.finish N ns).2 w' := by
  have HP := Lib.hid (settle_any h)
  have HI := Lib.hid hI
  have HL := Lib.hid hI.len
  have HM := Lib.hid hM
  have HZ := Lib.hid (@settle_down s)
  have HZ2 := Lib.hid (@settle_since s)
  have HSN := Lib.hid hb
  unfold DS.finish
  generalize s.settle = p at *
  obtain ⟨x, s1⟩ := p
  clear h hI hM hb
  by_cases hx : x = 0
  · subst hx
    have HD1 : Hid (s1.down = false) := HZ.out rfl
    have HS1 : Hid (s1.since.length ≤ s.since.length) := HZ2.out rfl
    clear HZ HZ2
    simp only [if_true]
    simp only at HP
    by_cases hn0 : n = 0
    · subst hn0
      obtain rfl : ns = [] := List.length_eq_zero_iff.1 HL.out
      simp only [if_true]
      go_enter Try.func44, Try.ntmps44
      go_wp2_with fail
      refine HP.out.mono ?_
      rintro e w1 ⟨rfl, hd⟩
      have HD := Lib.hid hd
      clear hd
      go_wp2_with fail
      go_ret
      exact ⟨rfl, HD.out⟩
    · have hne : ¬ ns = [] := fun e => hn0 (by rw [← HL.out, e]; rfl)
      simp only [hne, if_false]
      have hn0' : ((n : Int) == 0) = false := by simp; omega
      generalize hf : s1.apply N (s1.bodyOf ns) = q at *
      obtain ⟨y, s2⟩ := q
      have HF := Lib.hid hf
      clear hf hne
      go_enter Try.func44, Try.ntmps44
      go_wp2_with fail
      refine HP.out.mono ?_
      rintro e w1 ⟨rfl, O1, h1, h2, h3⟩
      have H1 := Lib.hid h1
      have H2 := Lib.hid h2
      have H3 := Lib.hid h3
      clear h1 h2 h3
      go_wp2_with fail
      refine (fromBody_any H1.out HD1.out (HI.out.keep (HM.out.keep H2.out)) (fun b hb => Nat.lt_of_lt_of_le (HM.out b hb).1 H2.out.size) hn).mono ?_
      rintro e w2 ⟨g, rfl, hw2, hb2⟩
      have HW2 := Lib.hid hw2
      have HB2 := Lib.hid hb2
      clear hw2 hb2
      go_wp2_with fail
      refine (apply_any (H1.out.below HB2.out) HW2.out (fun q hq => ⟨hq.2, fun e => by have := H1.out.lt q e; have := hq.1; omega⟩) (by have := HS1.out; have := HSN.out; omega)).mono ?_
      rintro e w3 ⟨rfl, hd⟩
      rw [HF.out] at hd ⊢
      have HD := Lib.hid (Did.then_ H2.out H3.out (hd.from_ HB2.out))
      clear hd
      go_wp2_with fail
      go_ret
      exact ⟨rfl, HD.out⟩
  · simp only [hx, if_false]
    have hx' : (x != 0) = true := by simpa using hx
    simp only at HP
    clear hx HZ HZ2
    go_enter Try.func44, Try.ntmps44
    go_wp2_with fail
    refine HP.out.mono ?_
    rintro e w1 ⟨rfl, hd⟩
    have HD := Lib.hid hd
    clear hd
    go_wp2_with fail
    go_ret
    exact ⟨rfl, HD.out⟩
theorem recover_nil (w : World) : Calls Try.prog 18 #[.pointer none] w fun e w' => e = .returned (.int .i64 1) ∧ w = w' := by
  go_enter Try.func18, Try.ntmps18
  go_wp2_with fail
  go_ret
  exact ⟨rfl, rfl⟩
set_option maxRecDepth 20000 in
set_option maxHeartbeats 1000000 in
theorem recover_any {w : World} {d : Nat} {O : List Nat} {N : Nat} {s : DS} (h : Drv w d O N s) (hb : s.down = false → s.since.length ≤ 1000000) :
    Calls Try.prog 18 #[.pointer (some ⟨d, 0, none⟩)] w fun e w' => e = .returned (.int .i64 (s.recover N).1) ∧ Did w d O N (s.recover N).2 w' := by
  unfold DS.recover
  cases hd : s.down with
  | true =>
    have HG := Lib.hid (logged_down h hd)
    have H := Lib.hid h
    simp only [if_true]
    clear h hd hb
    go_enter Try.func18, Try.ntmps18
    go_wp2_with fail
    refine HG.out.mono ?_
    rintro e w1 ⟨rfl, rfl⟩
    go_wp2_with fail
    go_ret
    exact ⟨rfl, Did.mk H.out (Chg.refl _ _)⟩
  | false =>
    have HG := Lib.hid (logged_up h hd)
    have H := Lib.hid h
    have HSN := Lib.hid (hb hd)
    simp only [Bool.false_eq_true, if_false]
    have HO : Hid (∀ ns, isHd (s.now[1]?.getD []) = some ns → good ns = true) := fun ns h => (isHd_some h).1
    generalize isHd (s.now[1]?.getD []) = o at *
    clear h hd hb
    cases o with
    | none =>
      simp only
      go_enter Try.func18, Try.ntmps18
      go_wp2_with fail
      refine HG.out.mono ?_
      rintro e w1 ⟨rfl, hb1⟩
      have HB1 := Lib.hid hb1
      clear hb1
      go_wp2_with fail
      go_ret
      exact ⟨rfl, Did.below H.out HB1.out⟩
    | some ns =>
      have HN : Hid (ns.length ≤ 24) := (good_iff.1 (HO.out ns rfl)).1
      clear HO
      simp only
      cases hw : withinL N ns with
      | false =>
        simp only [Bool.false_eq_true, if_false]
        have HW := Lib.hid hw
        clear hw
        go_enter Try.func18, Try.ntmps18
        go_wp2_with fail
        refine HG.out.mono ?_
        rintro e w1 ⟨g, rfl, h2, h3, h4, h5⟩
        have HI := Lib.hid h2
        have HB1 := Lib.hid h5
        clear h2 h5
        go_wp2_with fail
        refine (within_any (H.out.below HB1.out) HI.out).mono ?_
        rintro e w2 ⟨rfl, rfl⟩
        rw [HW.out]
        go_wp2_with fail
        go_ret
        exact ⟨rfl, Did.below H.out HB1.out⟩
      | true =>
        simp only [if_true]
        have HW := Lib.hid hw
        clear hw
        generalize hf : s.finish N ns = q at *
        obtain ⟨y, s2⟩ := q
        have HF := Lib.hid hf
        clear hf
        go_enter Try.func18, Try.ntmps18
        go_wp2_with fail
        refine HG.out.mono ?_
        rintro e w1 ⟨g, rfl, h2, h3, h4, h5⟩
        have HI := Lib.hid h2
        have HB1 := Lib.hid h5
        clear h2 h5
        go_wp2_with fail
        refine (within_any (H.out.below HB1.out) HI.out).mono ?_
        rintro e w2 ⟨rfl, rfl⟩
        rw [HW.out]
        go_wp2_with fail
        refine (finish_any (H.out.below HB1.out) HI.out (fun q hq => by cases hq; exact ⟨h4, fun e => by have := H.out.lt _ e; omega⟩) HN.out HSN.out).mono ?_
        rintro e w2 ⟨rfl, hd⟩
        rw [HF.out] at hd ⊢
        have HD := Lib.hid (hd.from_ HB1.out)
        clear hd
        go_wp2_with fail
        go_ret
        exact ⟨rfl, HD.out⟩
end Go.Proofs.Ytlhkkelpombbiaa
