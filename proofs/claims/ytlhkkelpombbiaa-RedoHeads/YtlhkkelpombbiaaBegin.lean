/- Commit and Recover of a drive at rest; the law's begin and awake, walked. -/
import Derived.Test.YtlhkkelpombbiaaCommit
import Derived.Test.YtlhkkelpombbiaaDen
namespace Go.Proofs.Ytlhkkelpombbiaa
open Go.RowKit
set_option linter.unusedVariables false

theorem commit_any {w : World} {d : Nat} {O : List Nat} {N : Nat} {s : DS} {M : Nat → Prop} {A : Option Addr} {n c : Nat} {ws : List Wr} (h : Drv w d O N s)
    (hW : Wrs w M A n c ws) (hM : Free w O M) (hn : n * 8 ≤ 140737488355328) (hsn : s.down = false → s.since.length ≤ 1000000)
    (ho : s.down = false → ∀ ns, isHd (s.now[1]?.getD []) = some ns → ns = []) :
    Calls Try.prog 15 #[.pointer (some ⟨d, 0, none⟩), .slice A n c] w fun e w' => e = .returned (.int .i64 (s.commit N ws).1) ∧ Did w d O N (s.commit N ws).2 w' := by
  by_cases hn0 : n = 0
  · subst hn0
    obtain rfl : ws = [] := List.length_eq_zero_iff.1 hW.len
    refine (commit_none (p := none) d w).mono ?_
    rintro e w' ⟨rfl, rfl⟩
    exact ⟨rfl, Did.mk h (Chg.refl _ _)⟩
  · cases hf : fit N ws with
    | true => exact commit_fit h hW hM hn0 hf hsn ho
    | false =>
      refine (commit_bad h hW hM hn0 hn hf).mono ?_
      rintro e w' ⟨rfl, hb⟩
      have hne : ¬ ws = [] := fun e => hn0 (by rw [← hW.len, e]; rfl)
      have : s.commit N ws = (1, s) := by simp [DS.commit, hne, hf]
      rw [this]
      exact ⟨rfl, Did.below h hb⟩
theorem OnS.left {N : Nat} {s : DS} {X : Secs2} (h : OnS N s X) : ∀ ns, isHd (s.now[1]?.getD []) = some ns → ns = [] := by
  obtain ⟨L, hR, hw, hD⟩ := h
  intro ns hns
  rw [hR.now, hD.head, Option.getD_some, isHd_hd good_nil] at hns
  exact (Option.some.inj hns).symm
theorem OnS.since {N : Nat} {s : DS} {X : Secs2} (h : OnS N s X) : s.since = [] := by
  obtain ⟨L, hR, hw, hD⟩ := h
  exact hR.since
theorem OnS.down {N : Nat} {s : DS} {X : Secs2} (h : OnS N s X) : s.down = false := by
  obtain ⟨L, hR, hw, hD⟩ := h
  exact hR.down
/-- A drive of one's own, at rest, that stands for X; no power is about to go. -/
structure Ons (w0 w : World) (d : Nat) (O : List Nat) (N : Nat) (s : DS) (X : Secs2) : Prop where
  sit : Sit w0 w d O N s
  on : OnS N s X
  len : X.length = N
  free : s.fused = false
def Onw (w0 w : World) (d : Nat) (O : List Nat) (N : Nat) (X : Secs2) (w' : World) : Prop := ∃ O' s', Ons w0 w' d O' N s' X ∧ Chg O w w' ∧ ∀ b ∈ O', b ∈ O ∨ w.heap.size ≤ b
section
variable {w0 w w' : World} {d N n c : Nat} {O : List Nat} {s : DS} {X : Secs2} {M : Nat → Prop} {A : Option Addr} {ws : List Wr}
theorem Ons.n64 (h : Ons w0 w d O N s X) : 64 ≤ N := h.sit.drv.n64.1
theorem Ons.below (h : Ons w0 w d O N s X) (hb : Below w.heap.size w w') : Ons w0 w' d O N s X := ⟨h.sit.below hb, h.on, h.len, h.free⟩
theorem commitO (h : Ons w0 w d O N s X) (hW : Wrs w M A n c ws) (hM : Free w O M) (hf : fit N ws = true) :
    Calls Try.prog 15 #[.pointer (some ⟨d, 0, none⟩), .slice A n c] w fun e w' => e = .returned (.int .i64 0) ∧ Onw w0 w d O N (lay X (toW ws)) w' := by
  have h24 := (fit_facts hf).2.2.2
  have hl := hW.len
  refine (commit_any h.sit.drv hW hM (by omega) (fun _ => by rw [h.on.since]; simp) (fun _ => h.on.left)).mono ?_
  rintro e w' ⟨rfl, hd⟩
  have hlen : (lay X (toW ws)).length = N := by rw [lay_len, h.len]
  by_cases hne : ws = []
  · subst hne
    have : s.commit N [] = (0, s) := by simp [DS.commit]
    rw [this] at hd ⊢
    obtain ⟨O', h1, h2, h3⟩ := h.sit.did hd
    exact ⟨rfl, O', s, ⟨h1, h.on, h.len, h.free⟩, h2, h3⟩
  · rcases commit_den h.n64 h.on h.len hf hne with ⟨s', e1, e2, e3⟩ | ⟨s', e1, e2, _⟩
    · rw [e1] at hd ⊢
      obtain ⟨O', h1, h2, h3⟩ := h.sit.did hd
      exact ⟨rfl, O', s', ⟨h1, e2, hlen, e3.trans h.free⟩, h2, h3⟩
    · rw [h.free] at e2; cases e2
theorem recoverO (h : Ons w0 w d O N s X) : Calls Try.prog 18 #[.pointer (some ⟨d, 0, none⟩)] w fun e w' => e = .returned (.int .i64 0) ∧ Onw w0 w d O N X w' := by
  refine (recover_any h.sit.drv (fun _ => by rw [h.on.since]; simp)).mono ?_
  rintro e w' ⟨rfl, hd⟩
  rw [h.on.recover h.n64] at hd ⊢
  obtain ⟨O', h1, h2, h3⟩ := h.sit.did hd
  exact ⟨rfl, O', s, ⟨h1, h.on, h.len, h.free⟩, h2, h3⟩
end
def X0 (N : Nat) : Secs2 := (List.replicate N zeros).set 1 (hd [])
def begS (N : Nat) : DS := ⟨X0 N, X0 N, [], false, 0, false⟩
theorem beg_put {N : Nat} (hN : 64 ≤ N) : (newS N).put N [(1, hd [])] = (0, ⟨X0 N, List.replicate N zeros, [(1, hd [])], false, 0, false⟩) := by
  rw [put_free rfl rfl (hd_fit hN good_nil)]
  rfl
theorem beg_flush (N : Nat) : (⟨X0 N, List.replicate N zeros, [(1, hd [])], false, 0, false⟩ : DS).flush = (0, begS N) := by
  rw [flush_free rfl rfl]
  rfl
theorem beg_on {N : Nat} (hN : 64 ≤ N) : OnS N (begS N) (X0 N) := by
  refine ⟨X0 N, ⟨rfl, rfl, rfl, rfl, fun h => by cases h⟩, ?_, DenN.empty ?_ fun i _ _ => rfl⟩
  · exact set_head hN ⟨by simp, fun x hx => by rw [List.eq_of_mem_replicate hx]; exact zeros_len⟩ good_nil
  · unfold X0
    rw [List.getElem?_set_self (by simp; omega)]
def BegP (N : Nat) (w : World) (e : Ending) (w' : World) : Prop := ∃ d O, e = .returned (.pointer (some ⟨d, 0, none⟩)) ∧ Ons w w' d O N (begS N) (X0 N)
set_option maxRecDepth 20000 in
set_option maxHeartbeats 1000000 in
theorem begin_any (N : Nat) (w : World) (h0 : 64 ≤ N) (h1 : N ≤ 1024) : Calls Try.prog 13 #[.int .i64 N] w (BegP N w) := by
  go_enter Try.func13, Try.ntmps13
  go_wp2_with fail
  refine (new_any N w h0 h1).mono ?_
  rintro e w1 ⟨d, O, rfl, hd1, hf1, hb1⟩
  have HS : Hid (Sit w w1 d O N (newS N)) := ⟨hd1, hf1, hb1⟩
  clear hd1 hf1 hb1
  go_wp2_with fail
  refine (head_yes (ints_none w1 (fun _ => False)) (fun _ hf => hf.elim) good_nil).mono ?_
  rintro e w2 ⟨v, rfl, hm⟩
  have HS2 := Lib.hid (HS.out.below hm.bel)
  obtain ⟨g, cap, rfl, hg1, hg2, hbt⟩ := mine_bts hm (by rw [hd_len (by simp)]; omega)
  rw [hd_len (by simp)] at hbt ⊢
  have HBT := Lib.hid hbt
  have HB2 := Lib.hid hm.bel
  clear hm hbt
  go_wp2_with fail
  refine (put_any (HS2.out.below ((Below.refl _ w2).alloc (Nat.le_refl _) _)).drv (wrs_1 1 HBT.out (fun b hb => by cases hb; exact hg2)) ?_ (by simp [newS])).mono ?_
  · rintro b (rfl | rfl)
    · exact ⟨by simp; omega, fun e => by have := HS.out.drv.lt _ e; omega⟩
    · exact ⟨by simp, fun e => by have := HS2.out.drv.lt _ e; omega⟩
  · rintro e w3 ⟨rfl, hdd⟩
    rw [beg_put h0] at hdd ⊢
    obtain ⟨O3, h3, _, _⟩ := (HS2.out.below ((Below.refl _ w2).alloc (Nat.le_refl _) _)).did hdd
    have HS3 := Lib.hid h3
    clear h3 hdd
    go_wp2_with fail
    refine (flush_any HS3.out.drv).mono ?_
    rintro e w4 ⟨rfl, hdd⟩
    rw [beg_flush] at hdd ⊢
    obtain ⟨O4, h4, _, _⟩ := HS3.out.did hdd
    have HS4 := Lib.hid h4
    clear h4 hdd
    go_wp2_with fail
    go_ret
    exact ⟨d, O4, rfl, HS4.out, beg_on h0, by simp [X0], rfl⟩
theorem good2 : good [30, 0] = true := by decide
theorem fit40 : fit 64 [(40, hd [30, 0])] = true := by
  unfold fit
  have h1 : good ([(40, hd [30, 0])].map (·.1) : List Int) = true := by decide
  have h2 : withinL 64 ([(40, hd [30, 0])].map (·.1) : List Int) = true := by decide
  have h3 : wholeL [(40, hd [30, 0])] = true := by
    unfold wholeL
    simp [hd_len (good_iff.1 good2).1]
  rw [h1, h2, h3]
  rfl
set_option maxRecDepth 20000 in
set_option maxHeartbeats 1000000 in
theorem awake_any (w : World) : Calls Try.prog 12 #[] w fun e w' => e = .returned (.bool true) ∧ Below w.heap.size w w' := by
  go_enter Try.func12, Try.ntmps12
  go_wp2_with fail
  refine (head_yes (ints_two w 30 0) (fun b hb => by cases hb; simp) good2).mono ?_
  rintro e w1 ⟨v, rfl, hm⟩
  have HB1 : Hid (Below w.heap.size w w1) := ((Below.refl _ w).alloc (Nat.le_refl _) _).trans (hm.bel.mono (by simp))
  obtain ⟨A0, n0, c0, e0, hB0⟩ := hm.holds
  obtain ⟨g, cap, rfl, hg1, hg2, hbt⟩ := mine_bts hm (by rw [hd_len (good_iff.1 good2).1]; omega)
  cases e0
  rw [hd_len (good_iff.1 good2).1] at hbt hB0 ⊢
  have HBT := Lib.hid hbt
  have HB0 := Lib.hid hB0
  clear hm hbt hB0
  go_wp2_with fail
  have HH := Lib.hid (heads_any HB0.out (Nat.le_refl _))
  rw [isHd_hd good2] at HH
  refine HH.out.mono ?_
  rintro e w2 ⟨g2, rfl, hI2, hg21, hg22, hb2⟩
  have HB2 := Lib.hid (HB1.out.trans (hb2.mono HB1.out.size))
  have HBT2 := Lib.hid (HBT.out.keep (w' := w2) fun b hb => by cases hb; exact hb2.block _ hg2)
  have hg2' : g < w2.heap.size := Nat.lt_of_lt_of_le hg2 hb2.size
  have HI2 := Lib.hid hI2
  clear hb2 hI2 HH HB0 HBT
  show _
  go_wp2_with fail
  refine (begin_any 64 w2 (by omega) (by omega)).mono ?_
  rintro e w3 ⟨d, O, rfl, hO⟩
  have HO := Lib.hid hO
  have HB3 := Lib.hid (HB2.out.trans (hO.sit.bel.mono HB2.out.size))
  have HBT3 := Lib.hid (HBT2.out.keep (w' := w3) fun b hb => by cases hb; exact hO.sit.bel.block _ hg2')
  have hI3 := HI2.out.keep (w' := w3) fun b hb => by cases hb; exact hO.sit.bel.block _ hg22
  obtain ⟨b3, off3, e3, hb3, hc3⟩ := hI3.cell (k := 0) (by simp)
  cases e3
  have hc3' : w3.cell? ⟨g2, 0, none⟩ = some (.int .i64 30) := hc3
  have hg3' : g < w3.heap.size := Nat.lt_of_lt_of_le hg2' hO.sit.bel.size
  clear hO hI3 hc3 hb3
  go_wp2_with fail
  refine (commitO (HO.out.below ((Below.refl _ w3).alloc (Nat.le_refl _) _)) (wrs_1 40 HBT3.out (fun b hb => by cases hb; exact hg3')) ?_ fit40).mono ?_
  · rintro b (rfl | rfl)
    · exact ⟨by simp; omega, fun e => by have := HO.out.sit.fresh _ e; omega⟩
    · exact ⟨by simp, fun e => by have := HO.out.sit.drv.lt _ e; omega⟩
  · rintro e w4 ⟨rfl, O4, s4, h4, _, _⟩
    have H4 := Lib.hid h4
    clear h4
    go_wp2_with fail
    refine (recoverO H4.out).mono ?_
    rintro e w5 ⟨rfl, O5, s5, h5, _, _⟩
    have HB5 := Lib.hid (HB2.out.trans (h5.sit.bel.mono HB2.out.size))
    clear h5
    go_wp2_with fail
    go_ret
    exact ⟨rfl, HB5.out⟩
end Go.Proofs.Ytlhkkelpombbiaa
