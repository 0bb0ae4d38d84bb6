/- redo.Commit, walked (where the head has no numbers, or is none). -/
import Derived.Test.YtlhkkelpombbiaaRecover
namespace Go.Proofs.Ytlhkkelpombbiaa
open Go.RowKit
set_option linter.unusedVariables false

theorem commit_nil {A : Option Addr} {n c : Nat} (w : World) : Calls Try.prog 15 #[.pointer none, .slice A n c] w fun e w' => e = .returned (.int .i64 1) ∧ w = w' := by
  go_enter Try.func15, Try.ntmps15
  go_wp2_with fail
  go_ret
  exact ⟨rfl, rfl⟩
theorem commit_none {p A : Option Addr} {c : Nat} (d : Nat) (w : World) : Calls Try.prog 15 #[.pointer (some ⟨d, 0, none⟩), .slice A 0 c] w fun e w' => e = .returned (.int .i64 0) ∧ w = w' := by
  go_enter Try.func15, Try.ntmps15
  go_wp2_with fail
  go_ret
  exact ⟨rfl, rfl⟩
set_option maxRecDepth 20000 in
set_option maxHeartbeats 2000000 in
theorem commit_bad {w : World} {d : Nat} {O : List Nat} {N : Nat} {s : DS} {M : Nat → Prop} {A : Option Addr} {n c : Nat} {ws : List Wr} (h : Drv w d O N s)
    (hW : Wrs w M A n c ws) (hM : Free w O M) (hn0 : n ≠ 0) (hn : n * 8 ≤ 140737488355328) (hf : fit N ws = false) :
    Calls Try.prog 15 #[.pointer (some ⟨d, 0, none⟩), .slice A n c] w fun e w' => e = .returned (.int .i64 1) ∧ Below w.heap.size w w' := by
  have HM : Hid (∀ b, M b → b < w.heap.size) := fun b hb => (hM b hb).1
  have H := Lib.hid h
  have HW := Lib.hid hW
  have HP := Lib.hid (places_any hW HM.out hn)
  have hn0' : ((n : Int) == 0) = false := by simp; omega
  have HF := Lib.hid hf
  clear h hW hM hf
  go_enter Try.func15, Try.ntmps15
  go_wp2_with fail
  refine HP.out.mono ?_
  rintro e w1 ⟨g, rfl, hI, hg1, hg2, hb1⟩
  have HI := Lib.hid hI
  have HB1 := Lib.hid hb1
  clear hI hb1
  go_wp2_with fail
  refine (allowed_any HI.out).mono ?_
  rintro e w2 ⟨rfl, rfl⟩
  cases hg : good (ws.map (·.1)) with
  | false =>
    clear hg
    go_wp2_with fail
    go_ret
    exact ⟨rfl, HB1.out⟩
  | true =>
    have HG := Lib.hid hg
    clear hg
    go_wp2_with fail
    refine (within_any (H.out.below HB1.out) HI.out).mono ?_
    rintro e w2 ⟨rfl, rfl⟩
    cases hw : withinL N (ws.map (·.1)) with
    | false =>
      clear hw
      go_wp2_with fail
      go_ret
      exact ⟨rfl, HB1.out⟩
    | true =>
      have HWW : Hid (wholeL ws = false) := by
        show _ = _
        have := HF.out
        unfold fit at this
        rw [HG.out, hw] at this
        simpa using this
      clear hw
      go_wp2_with fail
      refine (whole_any (HW.out.keep fun b hb => HB1.out.block b (HM.out b hb)) (fun b hb => Nat.lt_of_lt_of_le (HM.out b hb) HB1.out.size)).mono ?_
      rintro e w2 ⟨rfl, hb2⟩
      rw [HWW.out]
      have HB2 := Lib.hid (HB1.out.trans (hb2.mono HB1.out.size))
      clear hb2
      go_wp2_with fail
      go_ret
      exact ⟨rfl, HB2.out⟩
theorem fit_parts {N : Nat} {ws : List Wr} (h : fit N ws = true) : good (ws.map (·.1)) = true ∧ withinL N (ws.map (·.1)) = true ∧ wholeL ws = true := by
  unfold fit at h
  simpa using h
/-- Commit has seen that all may be committed, and knows the numbers. -/
def ComS (w : World) (n : Nat) (l : List Int) (g : Nat) (w' : World) : Prop := Ints w' (IM g) (some ⟨g, 0, none⟩) n n l ∧ w.heap.size ≤ g ∧ g < w'.heap.size ∧ Below w.heap.size w w'
set_option maxRecDepth 20000 in
set_option maxHeartbeats 2000000 in
theorem commit_fit {w : World} {d : Nat} {O : List Nat} {N : Nat} {s : DS} {M : Nat → Prop} {A : Option Addr} {n c : Nat} {ws : List Wr} (h : Drv w d O N s)
    (hW : Wrs w M A n c ws) (hM : Free w O M) (hn0 : n ≠ 0) (hf : fit N ws = true) (hsn : s.down = false → s.since.length ≤ 1000000)
    (ho : s.down = false → ∀ ns, isHd (s.now[1]?.getD []) = some ns → ns = []) :
    Calls Try.prog 15 #[.pointer (some ⟨d, 0, none⟩), .slice A n c] w fun e w' => e = .returned (.int .i64 (s.commit N ws).1) ∧ Did w d O N (s.commit N ws).2 w' := by
  have HM : Hid (∀ b, M b → b < w.heap.size) := fun b hb => (hM b hb).1
  have HFR := Lib.hid hM
  have H := Lib.hid h
  have HW := Lib.hid hW
  obtain ⟨hg, hwi, hwh⟩ := fit_parts hf
  have hlen : n ≤ 24 := by rw [← hW.len]; have := (good_iff.1 hg).1; simpa using this
  have HP := Lib.hid (places_any hW HM.out (by omega))
  have hn0' : ((n : Int) == 0) = false := by simp; omega
  have HG := Lib.hid hg
  have HWI := Lib.hid hwi
  have HWH := Lib.hid hwh
  have hne : ¬ ws = [] := fun e => hn0 (by rw [← hW.len, e]; rfl)
  unfold DS.commit
  simp only [hne, if_false, hf, if_true]
  clear h hW hM hf hg hwi hwh hne
  cases hd : s.down with
  | true =>
    have HD := Lib.hid hd
    simp only [if_true]
    clear hd hsn ho
    go_enter Try.func15, Try.ntmps15
    go_wp2_with fail
    refine HP.out.mono ?_
    rintro e w1 ⟨g, rfl, hI, hg1, hg2, hb1⟩
    have HI := Lib.hid hI
    have HB1 := Lib.hid hb1
    clear hI hb1
    go_wp2_with fail
    refine (allowed_any HI.out).mono ?_
    rintro e w2 ⟨rfl, rfl⟩
    rw [HG.out]
    go_wp2_with fail
    refine (within_any (H.out.below HB1.out) HI.out).mono ?_
    rintro e w2 ⟨rfl, rfl⟩
    rw [HWI.out]
    go_wp2_with fail
    refine (whole_any (HW.out.keep fun b hb => HB1.out.block b (HM.out b hb)) (fun b hb => Nat.lt_of_lt_of_le (HM.out b hb) HB1.out.size)).mono ?_
    rintro e w2 ⟨rfl, hb2⟩
    rw [HWH.out]
    have HB2 := Lib.hid (HB1.out.trans (hb2.mono HB1.out.size))
    clear hb2
    go_wp2_with fail
    refine (logged_down (H.out.below HB2.out) HD.out).mono ?_
    rintro e w3 ⟨rfl, rfl⟩
    go_wp2_with fail
    go_ret
    exact ⟨rfl, Did.below H.out HB2.out⟩
  | false =>
    have HD := Lib.hid hd
    have HSN := Lib.hid (hsn hd)
    have HO := Lib.hid (ho hd)
    simp only [Bool.false_eq_true, if_false]
    clear hd hsn ho
    have HLG := fun (w2 : World) (hb : Below w.heap.size w w2) => logged_up (H.out.below hb) HD.out
    generalize isHd (s.now[1]?.getD []) = o at *
    have HLG := Lib.hid HLG
    cases o with
    | none =>
      simp only
      go_enter Try.func15, Try.ntmps15
      go_wp2_with fail
      refine HP.out.mono ?_
      rintro e w1 ⟨g, rfl, hI, hg1, hg2, hb1⟩
      have HI := Lib.hid hI
      have HB1 := Lib.hid hb1
      clear hI hb1
      go_wp2_with fail
      refine (allowed_any HI.out).mono ?_
      rintro e w2 ⟨rfl, rfl⟩
      rw [HG.out]
      go_wp2_with fail
      refine (within_any (H.out.below HB1.out) HI.out).mono ?_
      rintro e w2 ⟨rfl, rfl⟩
      rw [HWI.out]
      go_wp2_with fail
      refine (whole_any (HW.out.keep fun b hb => HB1.out.block b (HM.out b hb)) (fun b hb => Nat.lt_of_lt_of_le (HM.out b hb) HB1.out.size)).mono ?_
      rintro e w2 ⟨rfl, hb2⟩
      rw [HWH.out]
      have HB2 := Lib.hid (HB1.out.trans (hb2.mono HB1.out.size))
      clear hb2
      go_wp2_with fail
      refine (HLG.out _ HB2.out).mono ?_
      rintro e w3 ⟨rfl, hb3⟩
      have HB3 := Lib.hid (HB2.out.trans (hb3.mono HB2.out.size))
      clear hb3
      go_wp2_with fail
      go_ret
      exact ⟨rfl, Did.below H.out HB3.out⟩
    | some ns =>
      obtain rfl : ns = [] := HO.out ns rfl
      simp only
      clear HO
      unfold DS.log
      have HZ := Lib.hid (@lasts_since s N (inBodyL ws))
      generalize hq1 : s.lasts N (inBodyL ws) = q1 at *
      obtain ⟨x1, s1⟩ := q1
      have HQ1 := Lib.hid hq1
      clear hq1
      simp only
      by_cases hx1 : x1 = 0
      · subst hx1
        have HZ1 : Hid (s1.since = []) := HZ.out rfl
        have HZ2 : Hid ((s1.head N (ws.map (·.1))).1 = 0 → (s1.head N (ws.map (·.1))).2.since = []) := fun h => lasts_since h
        clear HZ
        simp only [if_true]
        generalize hq2 : s1.head N (ws.map (·.1)) = q2 at *
        obtain ⟨x2, s2⟩ := q2
        have HQ2 := Lib.hid hq2
        clear hq2
        simp only
        by_cases hx2 : x2 = 0
        · subst hx2
          have HZ3 : Hid (s2.since = []) := HZ2.out rfl
          clear HZ2
          simp only [if_true]
          generalize hq3 : s2.apply N ws = q3 at *
          obtain ⟨x3, s3⟩ := q3
          have HQ3 := Lib.hid hq3
          clear hq3
          simp only
          go_enter Try.func15, Try.ntmps15
          go_wp2_with fail
          refine HP.out.mono ?_
          rintro e w1 ⟨g, rfl, hI, hg1, hg2, hb1⟩
          have HI := Lib.hid hI
          have HB1 := Lib.hid hb1
          clear hI hb1
          go_wp2_with fail
          refine (allowed_any HI.out).mono ?_
          rintro e w2 ⟨rfl, rfl⟩
          rw [HG.out]
          go_wp2_with fail
          refine (within_any (H.out.below HB1.out) HI.out).mono ?_
          rintro e w2 ⟨rfl, rfl⟩
          rw [HWI.out]
          go_wp2_with fail
          refine (whole_any (HW.out.keep fun b hb => HB1.out.block b (HM.out b hb)) (fun b hb => Nat.lt_of_lt_of_le (HM.out b hb) HB1.out.size)).mono ?_
          rintro e w2 ⟨rfl, hb2⟩
          rw [HWH.out]
          have HB2 := Lib.hid (HB1.out.trans (hb2.mono HB1.out.size))
          have HB12 := Lib.hid hb2
          clear hb2
          go_wp2_with fail
          refine (HLG.out _ HB2.out).mono ?_
          rintro e w3 ⟨g3, rfl, hI3, hg31, hg32, hb3⟩
          have HB3 := Lib.hid (HB2.out.trans (hb3.mono HB2.out.size))
          have HB13 := Lib.hid (HB12.out.trans (hb3.mono HB12.out.size))
          clear hb3 hI3
          go_wp2_with fail
          refine (inBody_any (HW.out.keep fun b hb => HB3.out.block b (HM.out b hb)) (fun b hb => Nat.lt_of_lt_of_le (HM.out b hb) HB3.out.size) hlen).mono ?_
          rintro e w4 ⟨g4, rfl, hW4, hg41, hg42, hb4⟩
          have HW4 := Lib.hid hW4
          have HB4 := Lib.hid (HB3.out.trans (hb4.mono HB3.out.size))
          have HB14 := Lib.hid (HB13.out.trans (hb4.mono HB13.out.size))
          have HI4 : Hid (Ints w4 (IM g) (some ⟨g, 0, none⟩) n n (ws.map (·.1))) := HI.out.keep fun b hb => by cases hb; exact HB14.out.block g hg2
          clear hb4 hW4
          go_wp2_with fail
          refine (lasting_any (H.out.below HB4.out) HW4.out (fun q hq => ?_) (by have := HSN.out; omega)).mono ?_
          · rcases hq with hq | rfl
            · exact ⟨Nat.lt_of_lt_of_le (HM.out q hq) HB4.out.size, (HFR.out q hq).2⟩
            · exact ⟨hg42, fun e => by have := H.out.lt _ e; have := HB3.out.size; omega⟩
          rintro e w5 ⟨rfl, hd5⟩
          rw [HQ1.out] at hd5 ⊢
          obtain ⟨O5, h51, h52, h53⟩ := hd5
          have H51 := Lib.hid h51
          have H52 := Lib.hid ((Chg.of_below HB4.out).tr h52)
          have H53 : Hid (∀ b ∈ O5, b ∈ O ∨ w.heap.size ≤ b) := fun b hb => by
            rcases h53 b hb with h | h
            · exact .inl h
            · right; have := HB4.out.size; omega
          have HI5 := Lib.hid (HI4.out.keep (w' := w5) fun b hb => by cases hb; exact h52.block g (Nat.lt_of_lt_of_le hg2 HB14.out.size) (fun e => by have := H.out.lt _ e; omega))
          have hg5 : g < w5.heap.size := Nat.lt_of_lt_of_le hg2 (Nat.le_trans HB14.out.size h52.size)
          clear h51 h52 h53
          go_wp2_with fail
          refine (putHead_any H51.out HI5.out (fun b hb => by cases hb; exact hg5) HG.out (by rw [HZ1.out]; simp)).mono ?_
          rintro e w6 ⟨rfl, hd6⟩
          rw [HQ2.out] at hd6 ⊢
          obtain ⟨O6, h61, h62, h63⟩ := Did.then_ H52.out H53.out hd6
          have H61 := Lib.hid h61
          have H62 := Lib.hid h62
          have H63 := Lib.hid h63
          clear h61 h62 h63 hd6
          go_wp2_with fail
          refine (apply_any H61.out (HW.out.keep (HFR.out.keep H62.out)) (HFR.out.after H62.out H63.out) (by rw [HZ3.out]; simp; omega)).mono ?_
          rintro e w7 ⟨rfl, hd7⟩
          rw [HQ3.out] at hd7 ⊢
          have HD7 := Lib.hid (Did.then_ H62.out H63.out hd7)
          clear hd7
          go_wp2_with fail
          go_ret
          exact ⟨rfl, HD7.out⟩
        · simp only [hx2, if_false]
          have hx2' : (x2 != 0) = true := by simpa using hx2
          clear hx2 HZ2
          go_enter Try.func15, Try.ntmps15
          go_wp2_with fail
          refine HP.out.mono ?_
          rintro e w1 ⟨g, rfl, hI, hg1, hg2, hb1⟩
          have HI := Lib.hid hI
          have HB1 := Lib.hid hb1
          clear hI hb1
          go_wp2_with fail
          refine (allowed_any HI.out).mono ?_
          rintro e w2 ⟨rfl, rfl⟩
          rw [HG.out]
          go_wp2_with fail
          refine (within_any (H.out.below HB1.out) HI.out).mono ?_
          rintro e w2 ⟨rfl, rfl⟩
          rw [HWI.out]
          go_wp2_with fail
          refine (whole_any (HW.out.keep fun b hb => HB1.out.block b (HM.out b hb)) (fun b hb => Nat.lt_of_lt_of_le (HM.out b hb) HB1.out.size)).mono ?_
          rintro e w2 ⟨rfl, hb2⟩
          rw [HWH.out]
          have HB2 := Lib.hid (HB1.out.trans (hb2.mono HB1.out.size))
          have HB12 := Lib.hid hb2
          clear hb2
          go_wp2_with fail
          refine (HLG.out _ HB2.out).mono ?_
          rintro e w3 ⟨g3, rfl, hI3, hg31, hg32, hb3⟩
          have HB3 := Lib.hid (HB2.out.trans (hb3.mono HB2.out.size))
          have HB13 := Lib.hid (HB12.out.trans (hb3.mono HB12.out.size))
          clear hb3 hI3
          go_wp2_with fail
          refine (inBody_any (HW.out.keep fun b hb => HB3.out.block b (HM.out b hb)) (fun b hb => Nat.lt_of_lt_of_le (HM.out b hb) HB3.out.size) hlen).mono ?_
          rintro e w4 ⟨g4, rfl, hW4, hg41, hg42, hb4⟩
          have HW4 := Lib.hid hW4
          have HB4 := Lib.hid (HB3.out.trans (hb4.mono HB3.out.size))
          have HB14 := Lib.hid (HB13.out.trans (hb4.mono HB13.out.size))
          have HI4 : Hid (Ints w4 (IM g) (some ⟨g, 0, none⟩) n n (ws.map (·.1))) := HI.out.keep fun b hb => by cases hb; exact HB14.out.block g hg2
          clear hb4 hW4
          go_wp2_with fail
          refine (lasting_any (H.out.below HB4.out) HW4.out (fun q hq => ?_) (by have := HSN.out; omega)).mono ?_
          · rcases hq with hq | rfl
            · exact ⟨Nat.lt_of_lt_of_le (HM.out q hq) HB4.out.size, (HFR.out q hq).2⟩
            · exact ⟨hg42, fun e => by have := H.out.lt _ e; have := HB3.out.size; omega⟩
          rintro e w5 ⟨rfl, hd5⟩
          rw [HQ1.out] at hd5 ⊢
          obtain ⟨O5, h51, h52, h53⟩ := hd5
          have H51 := Lib.hid h51
          have H52 := Lib.hid ((Chg.of_below HB4.out).tr h52)
          have H53 : Hid (∀ b ∈ O5, b ∈ O ∨ w.heap.size ≤ b) := fun b hb => by
            rcases h53 b hb with h | h
            · exact .inl h
            · right; have := HB4.out.size; omega
          have HI5 := Lib.hid (HI4.out.keep (w' := w5) fun b hb => by cases hb; exact h52.block g (Nat.lt_of_lt_of_le hg2 HB14.out.size) (fun e => by have := H.out.lt _ e; omega))
          have hg5 : g < w5.heap.size := Nat.lt_of_lt_of_le hg2 (Nat.le_trans HB14.out.size h52.size)
          clear h51 h52 h53
          go_wp2_with fail
          refine (putHead_any H51.out HI5.out (fun b hb => by cases hb; exact hg5) HG.out (by rw [HZ1.out]; simp)).mono ?_
          rintro e w6 ⟨rfl, hd6⟩
          rw [HQ2.out] at hd6 ⊢
          have HD6 := Lib.hid (Did.then_ H52.out H53.out hd6)
          clear hd6
          go_wp2_with fail
          go_ret
          exact ⟨rfl, HD6.out⟩
      · simp only [hx1, if_false]
        have hx1' : (x1 != 0) = true := by simpa using hx1
        clear hx1 HZ
        go_enter Try.func15, Try.ntmps15
        go_wp2_with fail
        refine HP.out.mono ?_
        rintro e w1 ⟨g, rfl, hI, hg1, hg2, hb1⟩
        have HI := Lib.hid hI
        have HB1 := Lib.hid hb1
        clear hI hb1
        go_wp2_with fail
        refine (allowed_any HI.out).mono ?_
        rintro e w2 ⟨rfl, rfl⟩
        rw [HG.out]
        go_wp2_with fail
        refine (within_any (H.out.below HB1.out) HI.out).mono ?_
        rintro e w2 ⟨rfl, rfl⟩
        rw [HWI.out]
        go_wp2_with fail
        refine (whole_any (HW.out.keep fun b hb => HB1.out.block b (HM.out b hb)) (fun b hb => Nat.lt_of_lt_of_le (HM.out b hb) HB1.out.size)).mono ?_
        rintro e w2 ⟨rfl, hb2⟩
        rw [HWH.out]
        have HB2 := Lib.hid (HB1.out.trans (hb2.mono HB1.out.size))
        have HB12 := Lib.hid hb2
        clear hb2
        go_wp2_with fail
        refine (HLG.out _ HB2.out).mono ?_
        rintro e w3 ⟨g3, rfl, hI3, hg31, hg32, hb3⟩
        have HB3 := Lib.hid (HB2.out.trans (hb3.mono HB2.out.size))
        have HB13 := Lib.hid (HB12.out.trans (hb3.mono HB12.out.size))
        clear hb3 hI3
        go_wp2_with fail
        refine (inBody_any (HW.out.keep fun b hb => HB3.out.block b (HM.out b hb)) (fun b hb => Nat.lt_of_lt_of_le (HM.out b hb) HB3.out.size) hlen).mono ?_
        rintro e w4 ⟨g4, rfl, hW4, hg41, hg42, hb4⟩
        have HW4 := Lib.hid hW4
        have HB4 := Lib.hid (HB3.out.trans (hb4.mono HB3.out.size))
        have HB14 := Lib.hid (HB13.out.trans (hb4.mono HB13.out.size))
        have HI4 : Hid (Ints w4 (IM g) (some ⟨g, 0, none⟩) n n (ws.map (·.1))) := HI.out.keep fun b hb => by cases hb; exact HB14.out.block g hg2
        clear hb4 hW4
        go_wp2_with fail
        refine (lasting_any (H.out.below HB4.out) HW4.out (fun q hq => ?_) (by have := HSN.out; omega)).mono ?_
        · rcases hq with hq | rfl
          · exact ⟨Nat.lt_of_lt_of_le (HM.out q hq) HB4.out.size, (HFR.out q hq).2⟩
          · exact ⟨hg42, fun e => by have := H.out.lt _ e; have := HB3.out.size; omega⟩
        rintro e w5 ⟨rfl, hd5⟩
        rw [HQ1.out] at hd5 ⊢
        have HD5 := Lib.hid (hd5.from_ HB4.out)
        clear hd5
        go_wp2_with fail
        go_ret
        exact ⟨rfl, HD5.out⟩
end Go.Proofs.Ytlhkkelpombbiaa
