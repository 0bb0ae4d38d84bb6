/- 'emptyLog', 'Make', 'Mount'. -/
import Derived.Test.YtijbgdihnjnllaaGreatSFill
import Derived.BigQuiet
import Derived.Deep.QuietTactic
namespace Go.Proofs.YtijbgdihnjnllaaGreat
open Go.RowKit
set_option linter.unusedVariables false
set_option maxRecDepth 20000

theorem zeros_noHd : isHd zeros = none := by
  unfold isHd
  rw [if_neg]
  intro h
  have h1 := h.2.2.2
  have hc : cnt zeros = 0 := by decide +kernel
  rw [hc] at h1
  have h2 : (hd (nums zeros 0))[0]? = zeros[0]? := by rw [h1]
  have h3 : (hd (nums zeros 0))[0]? = some 82 := by
    rw [hd_get (by simp [nums]) (by rw [hbody_len]; omega)]
    rfl
  rw [h3] at h2
  cases h2
theorem new_recover (N : Nat) (hN : 64 ≤ N) (f : Bool) (l : Int) : (⟨List.replicate N zeros, List.replicate N zeros, [], f, l, false⟩ : DS).recover N = (2, ⟨List.replicate N zeros, List.replicate N zeros, [], f, l, false⟩) := by
  unfold DS.recover
  simp only [Bool.false_eq_true, if_false]
  have : (List.replicate N zeros)[1]?.getD [] = zeros := by rw [List.getElem?_replicate, if_pos (by omega)]; rfl
  rw [this, zeros_noHd]
/-- What a drive that was made ready stands for. -/
def X1 (N : Nat) : Secs2 := lay (X0 N) (toW (fillM N (X0 N)))
theorem X0_len (N : Nat) : (X0 N).length = N := by simp [X0]
theorem X1_len (N : Nat) : (X1 N).length = N := by unfold X1; rw [lay_len, X0_len]
def OnQ (w0 w : World) (d : Nat) (O : List Nat) (N : Nat) (X : Secs2) (e : Ending) (w' : World) : Prop := e = .returned (.int .i64 0) ∧ ∃ O' s', Ons w0 w' d O' N s' X ∧ Chg O w w' ∧ ∀ b ∈ O', b ∈ O ∨ w.heap.size ≤ b
section
variable {w0 w : World} {p d N q : Nat} {O : List Nat} {s : DS} {X : Secs2} {m : List Wr}
set_option maxHeartbeats 1000000 in
theorem emptyLog_gen (h : Sit w0 w d O N s) (hN : 64 ≤ N) (hs : ∃ f l, s = ⟨List.replicate N zeros, List.replicate N zeros, [], f, l, false⟩) {e1 : Int} {s1 : DS} (hp : s.put N [(1, hd [])] = (e1, s1)) (Q : Ending → World → Prop)
    (h0 : e1 = 0 → ∀ e w', (e = .returned (.int .i64 s1.flush.1) ∧ ∃ O', Sit w0 w' d O' N s1.flush.2 ∧ Chg O w w' ∧ ∀ b ∈ O', b ∈ O ∨ w.heap.size ≤ b) → Q e w')
    (h1 : e1 ≠ 0 → ∀ e w', (e = .returned (.int .i64 e1) ∧ ∃ O', Sit w0 w' d O' N s1 ∧ Chg O w w' ∧ ∀ b ∈ O', b ∈ O ∨ w.heap.size ≤ b) → Q e w') :
    Calls Tryz.prog 31 #[.pointer (some ⟨d, 0, none⟩)] w Q := by
  obtain ⟨f, l, es⟩ := hs
  have HREC : Hid (s.recover N = (2, s)) := by rw [es]; exact new_recover N hN f l
  have HSN : Hid (s.since = []) := by show _ = _; rw [es]
  have H := Lib.hid h
  have HP := Lib.hid hp
  have HQ0 := Lib.hid h0
  have HQ1 := Lib.hid h1
  clear es hp h h0 h1
  go_enter Tryz.func31, Tryz.ntmps31
  go_wp2_with fail
  have HRE := Lib.hid (recover_any H.out.drv (fun _ => by rw [HSN.out]; simp))
  rw [HREC.out] at HRE
  refine HRE.out.mono ?_
  rintro e w1 ⟨rfl, hd⟩
  obtain ⟨O1, h1, hc1, hf1⟩ := H.out.did hd
  have H1 := Lib.hid h1
  have HC1 := Lib.hid hc1
  have HF1 := Lib.hid hf1
  clear HRE hd h1 hc1 hf1
  show _
  go_wp2_with fail
  refine (head_yes (ints_none w1 (fun _ => False)) (fun _ hf => hf.elim) good_nil).mono ?_
  rintro e w2 ⟨v, rfl, hm⟩
  have H2 := Lib.hid (H1.out.below hm.bel)
  obtain ⟨g, cap, rfl, hg1, hg2, hbt⟩ := mine_bts hm (by rw [hd_len (by simp)]; omega)
  rw [hd_len (by simp)] at hbt ⊢
  have HBT := Lib.hid hbt
  have HB2 := Lib.hid hm.bel
  clear hm hbt
  go_wp2_with fail
  have hbx := (Below.refl w2.heap.size w2).alloc (Nat.le_refl _) (.cells #[.int .i64 1, .slice (some ⟨g, 0, none⟩) 128 cap] 87)
  have HPU := Lib.hid (put_any (H2.out.below hbx).drv (wrs_1 1 HBT.out (fun b hb => by cases hb; exact hg2)) (by
    rintro b (rfl | rfl)
    · exact ⟨by simp; omega, fun e => by have := H1.out.drv.lt _ e; omega⟩
    · exact ⟨by simp, fun e => by have := H2.out.drv.lt _ e; omega⟩) (by rw [HSN.out]; simp))
  rw [HP.out] at HPU
  refine HPU.out.mono ?_
  rintro e w3 ⟨rfl, hdd⟩
  obtain ⟨O3, h3, hc3, hf3⟩ := (H2.out.below hbx).did hdd
  have H3 := Lib.hid h3
  have hz1 := HB2.out.size
  have hz2 : w2.heap.size ≤ (w2.alloc (.cells #[.int .i64 1, .slice (some ⟨g, 0, none⟩) 128 cap] 87)).heap.size := by simp
  have HF3 : Hid (∀ b ∈ O3, b ∈ O1 ∨ w1.heap.size ≤ b) := fun b hb => by
    rcases hf3 b hb with g | g
    · exact .inl g
    · right; omega
  have HC3 : Hid (Chg O w w3) := by
    have e1 : Chg O1 w1 w3 := (Chg.of_below (HB2.out.trans (hbx.mono hz1))).tr hc3
    exact HC1.out.trans e1 HF1.out
  have HF4 : Hid (∀ b ∈ O3, b ∈ O ∨ w.heap.size ≤ b) := fun b hb => by
    rcases HF3.out b hb with g | g
    · exact HF1.out b g
    · right; have := HC1.out.size; omega
  clear HPU hdd h3 hc3 hf3 hbx hz1 hz2 HF3
  by_cases he : e1 = 0
  · subst he
    show _
    go_wp2_with fail
    refine (flush_any H3.out.drv).mono ?_
    rintro e w4 ⟨rfl, hdd⟩
    obtain ⟨O4, h4, hc4, hf4⟩ := H3.out.did hdd
    have HH4 : Hid (∃ O', Sit w0 w4 d O' N s1.flush.2 ∧ Chg O w w4 ∧ ∀ b ∈ O', b ∈ O ∨ w.heap.size ≤ b) := ⟨O4, h4, HC3.out.trans hc4 HF4.out, fun b hb => by
      rcases hf4 b hb with g | g
      · exact HF4.out b g
      · right; have := HC3.out.size; omega⟩
    clear hdd h4 hc4 hf4
    go_wp2_with fail
    first | exact HQ0.out rfl _ _ ⟨rfl, HH4.out⟩ | exact HQ0.out trivial _ _ ⟨rfl, HH4.out⟩
  · have hne : (e1 != 0) = true := by rw [bne_iff_ne]; exact he
    show _
    go_wp2_with fail
    exact HQ1.out he _ _ ⟨rfl, O3, H3.out, HC3.out, HF4.out⟩
theorem emptyLog_new (h : Sit w0 w d O N (newS N)) (hN : 64 ≤ N) : Calls Tryz.prog 31 #[.pointer (some ⟨d, 0, none⟩)] w (OnQ w0 w d O N (X0 N)) := by
  refine emptyLog_gen h hN ⟨false, 0, rfl⟩ (beg_put hN) _ (fun _ e w' hh => ?_) (fun hn => absurd rfl hn)
  rw [beg_flush] at hh
  obtain ⟨rfl, O', hS, hc, hf⟩ := hh
  exact ⟨rfl, O', begS N, ⟨hS, beg_on hN, X0_len N, rfl⟩, hc, hf⟩
set_option maxHeartbeats 1000000 in
theorem make_new (h : Sit w0 w d O N (newS N)) (hN : 64 ≤ N) : Calls Tryz.prog 13 #[.pointer (some ⟨d, 0, none⟩)] w (OnQ w0 w d O N (X1 N)) := by
  have H := Lib.hid h
  have HN := Lib.hid hN
  clear h hN
  go_enter Tryz.func13, Tryz.ntmps13
  go_wp2_with fail
  refine (emptyLog_new H.out HN.out).mono ?_
  rintro e w1 ⟨rfl, O1, s1, h1, hc1, hf1⟩
  have H1 := Lib.hid h1
  have HC1 := Lib.hid hc1
  have HF1 := Lib.hid hf1
  clear h1 hc1 hf1
  go_wp2_with fail
  refine (on_any d w1).mono ?_
  rintro e w2 ⟨rfl, hst, hmp, hb⟩
  have HS : Hid (Sto w0 w2 (w1.heap.size + 1) d O1 N s1 (X0 N) w1.heap.size []) :=
    ⟨H1.out.below hb, hst, hmp, MOk.nil N, fun e => by have := H1.out.sit.drv.lt _ e; omega, fun e => by have := H1.out.sit.drv.lt _ e; omega, by have := H1.out.sit.bel.size; omega, H1.out.sit.bel.size⟩
  have HB := Lib.hid hb
  have hsz := hb.size
  clear hst hmp hb
  generalize hq : w1.heap.size = q1 at *
  generalize hp : q1 + 1 = p1 at *
  go_wp2_with fail
  refine (fill_yes HS.out).mono ?_
  rintro e w3 ⟨rfl, hs3, hc3⟩
  have HS3 := Lib.hid hs3
  have HC3 := Lib.hid hc3
  clear hs3 hc3
  go_wp2_with fail
  refine (commit_yes HS3.out).mono ?_
  rintro e w4 ⟨rfl, O4, s4, hs4, hc4, hf4⟩
  have HS4 := Lib.hid hs4
  have HE : Hid (Chg O w w4 ∧ ∀ b ∈ O4, b ∈ O ∨ w.heap.size ≤ b) := by
    have hz := HC1.out.size
    have z3 := HC3.out.size
    have a1 : Chg O w w2 := HC1.out.trans (Chg.of_below (by rw [hq]; exact HB.out) (O := O)) fun b hb => .inl hb
    have a2 : Chg O w w3 := a1.trans HC3.out fun b hb => by simp at hb; right; omega
    refine ⟨a2.trans hc4 fun b hb => ?_, fun b hb => ?_⟩
    · rcases List.mem_cons.1 hb with rfl | hb
      · right; omega
      · exact HF1.out b hb
    · rcases hf4 b hb with g | g
      · exact HF1.out b g
      · right; omega
  clear hs4 hc4 hf4
  go_wp2_with fail
  go_ret
  exact ⟨rfl, O4, s4, HS4.out.ons, HE.out.1, HE.out.2⟩
/-- Nothing was written: the drive is as it was. -/
def Mou (w0 w : World) (d : Nat) (O : List Nat) (N : Nat) (s : DS) (X : Secs2) (er : Int) (e : Ending) (w' : World) : Prop := e = .returned (.tuple #[.pointer none, .int .i64 er]) ∧ ∃ O', Ons w0 w' d O' N s X ∧ Chg O w w' ∧ ∀ b ∈ O', b ∈ O ∨ w.heap.size ≤ b
/-- Mounted. -/
def MouOk (w0 w : World) (d : Nat) (O : List Nat) (N : Nat) (X : Secs2) (b c : Nat) (e : Ending) (w' : World) : Prop := ∃ p q O' s', e = .returned (.tuple #[.pointer (some ⟨p, 0, none⟩), .int .i64 0]) ∧ Sto w0 w' p d O' N s' (lay X (toW [(0, U.sec N (b + 1) c)])) q [] ∧ w.heap.size ≤ p ∧ w.heap.size ≤ q ∧ Chg O w w' ∧ ∀ b ∈ O', b ∈ O ∨ w.heap.size ≤ b
set_option maxHeartbeats 4000000 in
theorem mount_walk (h : Ons w0 w d O N s X) {a b c : Nat} {r : Bool} (hsup : ∀ w1 p q O1, Sto w0 w1 p d O1 N s X q [] → Calls Tryz.prog 35 #[.pointer (some ⟨p, 0, none⟩)] w1 fun e w' => e = .returned (.agg #[.int .i64 a, .int .i64 b, .int .i64 c]) ∧ Below w1.heap.size w1 w')
    (hseat : ∀ w1 p q O1, Sto w0 w1 p d O1 N s X q [] → Calls Tryz.prog 37 #[.pointer (some ⟨p, 0, none⟩)] w1 fun e w' => e = .returned (.bool r) ∧ Below w1.heap.size w1 w')
    (hk : a = N → r = true → b ≠ 1073741824 → U.ok N ((b + 1 : Nat) : Int) c = true) (hb30 : b ≤ 4294967296) (Q : Ending → World → Prop)
    (q1 : a ≠ N → ∀ e w', Mou w0 w d O N s X 2 e w' → Q e w') (q2 : a = N → r = false → ∀ e w', Mou w0 w d O N s X 2 e w' → Q e w')
    (q3 : a = N → r = true → b = 1073741824 → ∀ e w', Mou w0 w d O N s X 9 e w' → Q e w') (q4 : a = N → r = true → b ≠ 1073741824 → ∀ e w', MouOk w0 w d O N X b c e w' → Q e w') :
    Calls Tryz.prog 14 #[.pointer (some ⟨d, 0, none⟩)] w Q := by
  have H := Lib.hid h
  have HSU := Lib.hid hsup
  have HSE := Lib.hid hseat
  have HK := Lib.hid hk
  have Q1 := Lib.hid q1
  have Q2 := Lib.hid q2
  have Q3 := Lib.hid q3
  have Q4 := Lib.hid q4
  clear h hsup hseat hk q1 q2 q3 q4
  go_enter Tryz.func14, Tryz.ntmps14
  go_wp2_with fail
  have HRE := Lib.hid (recover_any H.out.sit.drv (fun _ => by rw [H.out.on.since]; simp))
  rw [H.out.on.recover H.out.n64] at HRE
  refine HRE.out.mono ?_
  rintro e w1 ⟨rfl, hd⟩
  obtain ⟨O1, h1, hc1, hf1⟩ := H.out.sit.did hd
  have H1 : Hid (Ons w0 w1 d O1 N s X) := ⟨h1, H.out.on, H.out.len, H.out.free⟩
  have HC1 := Lib.hid hc1
  have HF1 := Lib.hid hf1
  clear HRE hd h1 hc1 hf1
  show _
  go_wp2_with fail
  refine (on_any d w1).mono ?_
  rintro e w2 ⟨rfl, hst, hmp, hb⟩
  have HS : Hid (Sto w0 w2 (w1.heap.size + 1) d O1 N s X w1.heap.size []) :=
    ⟨H1.out.below hb, hst, hmp, MOk.nil N, fun e => by have := H1.out.sit.drv.lt _ e; omega, fun e => by have := H1.out.sit.drv.lt _ e; omega, by have := H1.out.sit.bel.size; omega, H1.out.sit.bel.size⟩
  have HC2 : Hid (Chg O w w2) := HC1.out.trans (Chg.of_below hb (O := O)) fun b hb => .inl hb
  have hz1 := HC1.out.size
  clear hst hmp hb
  generalize hq : w1.heap.size = q1 at *
  generalize hp : q1 + 1 = p1 at *
  have hp1 : w.heap.size ≤ p1 := by omega
  clear hq hp
  go_wp2_with fail
  refine (HSU.out w2 p1 q1 O1 HS.out).mono ?_
  rintro e w3 ⟨rfl, hb3⟩
  obtain ⟨a0, a1, a2⟩ := D.box1 w3 (Obj.cells #[.int .i64 (a : Int), .int .i64 (b : Int), .int .i64 (c : Int)] 81)
  have A0 := Lib.hid a0
  have hb4 := hb3.trans (a1.mono hb3.size)
  have HS4 := Lib.hid (HS.out.below hb4)
  have HC4 : Hid (Chg O w (w3.alloc (Obj.cells #[.int .i64 (a : Int), .int .i64 (b : Int), .int .i64 (c : Int)] 81))) := HC2.out.trans (Chg.of_below hb4 (O := O)) fun b hb => .inl hb
  have hz3 : w.heap.size ≤ w3.heap.size := Nat.le_trans HC2.out.size hb3.size
  have hpG : p1 < w3.heap.size := Nat.lt_of_lt_of_le HS.out.st.lt hb3.size
  have hqG : q1 < w3.heap.size := Nat.lt_of_lt_of_le HS.out.map.lt hb3.size
  have HOG : Hid (∀ b ∈ O1, b < w3.heap.size) := fun b hb => Nat.lt_of_lt_of_le (HS.out.ons.sit.drv.lt b hb) hb3.size
  have hw0 : w0.heap.size ≤ w3.heap.size := Nat.le_trans H.out.sit.bel.size hz3
  clear hb3 hb4 a0 a1 HS
  go_upto_region 6 with (first | (refine wpList_store_new rfl 81 _ _ rfl w3 #[.int .i64 0, .int .i64 0, .int .i64 0] #[.int .i64 (a : Int), .int .i64 (b : Int), .int .i64 (c : Int)] rfl rfl s42 rfl (oc3 _ _ _) ?_) | fail)
  have hg4 : w3.heap.size < (w3.alloc (Obj.cells #[.int .i64 (a : Int), .int .i64 (b : Int), .int .i64 (c : Int)] 81)).heap.size := by rw [a2]; omega
  clear a2
  generalize w3.alloc (Obj.cells #[.int .i64 (a : Int), .int .i64 (b : Int), .int .i64 (c : Int)] 81) = W at *
  generalize w3.heap.size = G at *
  have hc0 : W.cell? ⟨G, 0, none⟩ = some (.int .i64 (a : Int)) := cell_of_row _ _ 0 _ _ _ A0.out
  have HSC : Hid (∀ V, Below W.heap.size W V → V.cell? ⟨G, 0, none⟩ = some (.int .i64 (a : Int))) := fun V hb => by rw [hb.cell (p := ⟨G, 0, none⟩) hg4]; exact hc0
  have HSEC : Hid (∀ V, Below W.heap.size W V → Calls Tryz.prog 36 #[.pointer (some ⟨d, 0, none⟩)] V fun e w' => e = .returned (.int .i64 N) ∧ V = w') := fun V hb => sectorsD (HS4.out.below hb).ons.sit.drv
  have HSEA : Hid (∀ V, Below W.heap.size W V → Calls Tryz.prog 37 #[.pointer (some ⟨p1, 0, none⟩)] V fun e w' => e = .returned (.bool r) ∧ Below V.heap.size V w') := fun V hb => HSE.out V p1 q1 O1 (HS4.out.below hb)
  have HMOU : Hid (∀ V er, Below W.heap.size W V → Mou w0 w d O N s X er (.returned (.tuple #[.pointer none, .int .i64 er])) V) := fun V er hb =>
    ⟨rfl, O1, (HS4.out.below hb).ons, HC4.out.trans (Chg.of_below hb (O := O)) fun b hb => .inl hb, HF1.out⟩
  by_cases ha : a = N
  · have hne : ((a : Int) != (N : Int)) = false := by rw [bne_eq_false_iff_eq]; omega
    have HB0 : Hid (Below W.heap.size W W.drew) := (Below.refl _ _).drew
    go_region_held3 (fun V => V.cell? ⟨G, 0, none⟩ = some (.int .i64 (a : Int))) (first | with_reducible exact HSC.out _ HB0.out | with_reducible exact HSC.out _ HB1.out)
      ((first
        | (go_at_call 36; (with_reducible refine (HSEC.out _ HB0.out).mono ?_); rintro e w' ⟨rfl, rfl⟩)
        | (go_at_call 36; (with_reducible refine (HSEC.out _ HB1.out).mono ?_); rintro e w' ⟨rfl, rfl⟩)
        | (go_at_call 37; (with_reducible refine (HSEA.out _ HB0.out).mono ?_); rintro e V ⟨rfl, hb⟩; have HB1 : Hid (Below W.heap.size W V) := HB0.out.trans hb; clear hb)))
    have HMO2 := Lib.hid (fun er => HMOU.out _ er HB1.out)
    have HB2 := Lib.hid HB1.out
    subst ha
    cases r with
    | false =>
      go_wp2_with fail
      first | exact Q2.out rfl rfl _ _ (HMO2.out 2) | exact Q2.out trivial rfl _ _ (HMO2.out 2) | exact Q2.out trivial trivial _ _ (HMO2.out 2) | exact Q2.out _ _ (HMO2.out 2)
    | true =>
      have A1 := Lib.hid ((HB2.out.block G hg4).trans A0.out)
      have HSV := Lib.hid (HS4.out.below HB2.out)
      have HCV : Hid (Chg O w V) := HC4.out.trans (Chg.of_below HB2.out (O := O)) fun b hb => .inl hb
      have hgV : G < V.heap.size := Nat.lt_of_lt_of_le hg4 HB2.out.size
      clear HSC HSEC HSEA HMOU HB1 HS4 HC4 A0 hc0
      have hc1 : V.cell? ⟨G, 1, none⟩ = some (.int .i64 (b : Int)) := cell_of_row _ _ 1 _ _ _ A1.out
      by_cases hb : b = 1073741824
      · have hbe : ((b : Int) == 1073741824) = true := by rw [beq_iff_eq]; omega
        go_wp2_with fail
        first | exact Q3.out rfl rfl hb _ _ (HMO2.out 9) | exact Q3.out trivial trivial hb _ _ (HMO2.out 9) | exact Q3.out hb _ _ (HMO2.out 9)
      · have hbe : ((b : Int) == 1073741824) = false := by rw [beq_eq_false_iff_ne]; omega
        have f1 := F.free_in A1.out 1
        have HOK : Hid (U.ok a ((b + 1 : Nat) : Int) c = true) := by first | exact HK.out rfl rfl hb | exact HK.out trivial trivial hb | exact HK.out hb
        obtain ⟨b1, hb1⟩ : ∃ b1, b + 1 = b1 := ⟨_, rfl⟩
        have hw1 : IntKind.i64.wrap ((b : Int) + 1) = (b1 : Int) := by rw [IntKind.wrap_i64]; omega
        rw [hb1] at HOK
        have HBB := Lib.hid hb
        have H1B := Lib.hid hb1
        clear hb hb1 hb30
        go_upto_region 11 with fail
        have A2 : Hid ((V.setCell ⟨G, 1, none⟩ (.int .i64 (b1 : Int))).heap[G]? = some (.cells #[.int .i64 (a : Int), .int .i64 (b1 : Int), .int .i64 (c : Int)] 81 (0, 0))) := F.heap_set A1.out 1 _
        have HCW : Hid (Chg O w (V.setCell ⟨G, 1, none⟩ (.int .i64 (b1 : Int)))) := HCV.out.setCell (.inr hz3) _
        have HSW : Hid (Sto w0 (V.setCell ⟨G, 1, none⟩ (.int .i64 (b1 : Int))) p1 d O1 a s X q1 []) := HSV.out.keep_ (fun x hx => Below.heap_setCell _ _ _ _ (by
          show x ≠ G
          rcases hx with hx | rfl | rfl
          · have := HOG.out x hx; omega
          · omega
          · omega)) ((Below.refl _ V).setCell (p := ⟨G, 1, none⟩) hw0 _)
        clear hc1 f1 hw1 A1 HSV HCV hgV HMO2
        generalize V.setCell ⟨G, 1, none⟩ (.int .i64 (b1 : Int)) = V1 at *
        go_wp2_with (first | (refine D.wpList_load_row rfl 81 _ rfl G rfl _ _ _ A2.out _ Tryz.underlying81 rfl s42 ?_) | fail)
        refine (setSuper_yes HSW.out a b1 c HOK.out (by right; simp)).mono ?_
        rintro e w5 ⟨rfl, hs5, hc5⟩
        have HS5 : Hid (Sto w0 w5 p1 d O1 a s X q1 [(0, U.sec a b1 c)]) := hs5
        have HC5 : Hid (Chg O w w5) := HCW.out.trans hc5 fun x hx => by simp at hx; right; omega
        clear hs5 hc5
        go_wp2_with fail
        refine (commit_yes HS5.out).mono ?_
        rintro e w6 ⟨rfl, O6, s6, hs6, hc6, hf6⟩
        have hz5 := HC5.out.size
        have HFIN : Hid (MouOk w0 w d O a X b c (.returned (.tuple #[.pointer (some ⟨p1, 0, none⟩), .int .i64 0])) w6) := by
          refine ⟨p1, q1, O6, s6, rfl, by rw [H1B.out]; exact hs6, hp1, hz1, HC5.out.trans hc6 fun x hx => ?_, fun x hx => ?_⟩
          · rcases List.mem_cons.1 hx with rfl | hx
            · right; exact hz1
            · exact HF1.out x hx
          · rcases hf6 x hx with g | g
            · exact HF1.out x g
            · right; omega
        clear hs6 hc6 hf6
        go_wp2_with fail
        first | exact Q4.out rfl rfl HBB.out _ _ HFIN.out | exact Q4.out trivial trivial HBB.out _ _ HFIN.out | exact Q4.out HBB.out _ _ HFIN.out
  · have hne : ((a : Int) != (N : Int)) = true := by rw [bne_iff_ne]; omega
    have HB0 : Hid (Below W.heap.size W W.drew) := (Below.refl _ _).drew
    have hne2 : ((a : Int) == (N : Int)) = false := by rw [beq_eq_false_iff_ne]; omega
    have HBN : Hid (∀ n, Below W.heap.size W (W.drewN n)) := fun n => U.below_drewN (Below.refl _ _) n
    have HSEQ : Hid (∀ n, Calls Tryz.prog 36 #[.pointer (some ⟨d, 0, none⟩)] (W.drewN n) fun e w' => e = .returned (.int .i64 N) ∧ ∃ m, w' = W.drewN m) := fun n => by
      refine (HSEC.out _ (HBN.out n)).mono ?_
      rintro e w' ⟨rfl, rfl⟩
      exact ⟨rfl, n, rfl⟩
    go_quiet (first | (go_at_call 36; exact HSEQ.out _))
    go_wp2_with fail
    exact Q1.out ha _ _ (HMOU.out _ _ (HBN.out _))
end
end Go.Proofs.YtijbgdihnjnllaaGreat
