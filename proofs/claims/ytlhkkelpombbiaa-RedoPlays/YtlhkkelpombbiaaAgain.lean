/- The law's again, walked. -/
import Derived.Test.YtlhkkelpombbiaaGame
namespace Go.Proofs.Ytlhkkelpombbiaa
open Go.RowKit
set_option linter.unusedVariables false

structure SStep where
  what : Int
  n : Int
  list : List Wr
  keep : List Int
/-- The value of a step. -/
structure StepV (w : World) (M : Nat → Prop) (x : SStep) (A1 : Option Addr) (n1 c1 : Nat) (A2 : Option Addr) (n2 c2 : Nat) : Prop where
  lo : -9223372036854775808 ≤ x.n
  hi : x.n ≤ 9223372036854775807
  wrs : Wrs w M A1 n1 c1 x.list
  ints : Ints w M A2 n2 c2 x.keep
  sml : n1 * 8 ≤ 70368744177664
theorem StepV.keep_ {w w' : World} {M : Nat → Prop} {x : SStep} {A1 A2 : Option Addr} {n1 c1 n2 c2 : Nat} (h : StepV w M x A1 n1 c1 A2 n2 c2) (hk : ∀ b, M b → w'.heap[b]? = w.heap[b]?) : StepV w' M x A1 n1 c1 A2 n2 c2 :=
  ⟨h.lo, h.hi, h.wrs.keep hk, h.ints.keep hk, h.sml⟩
/-- Texts of the law's, apart from the drive and from the game itself. -/
structure TB (W w : World) (gb : Nat) (O : List Nat) (g c : Nat) (X : Secs2) : Prop where
  str : StrB w g c X
  out : g ∉ O
  new : W.heap.size ≤ g
  ne : g ≠ gb
/-- The law's game: its drive, what there is, what there may be. -/
structure Gm (W w : World) (gb d : Nat) (O : List Nat) (N : Nat) (s : DS) (X Y : Secs2) (off : Bool) (gn cn : Nat) (vm : Value) : Prop where
  sit : Sit W w d O N s
  gbo : gb ∉ O
  gbw : W.heap.size ≤ gb
  xl : X.length = N
  gm : GameAt w gb d (.slice (some ⟨gn, 0, none⟩) N cn) vm off
  now : TB W w gb O gn cn X
  may : off = true → Y.length = N ∧ ∃ g c, vm = .slice (some ⟨g, 0, none⟩) N c ∧ TB W w gb O g c Y
section
variable {W w w' : World} {gb d N gn cn g c : Nat} {O O' : List Nat} {s s' : DS} {X Y : Secs2} {off : Bool} {vm : Value}
theorem TB.below (h : TB W w gb O g c X) (hb : Below w.heap.size w w') : TB W w' gb O g c X := ⟨h.str.below hb, h.out, h.new, h.ne⟩
theorem TB.chg (h : TB W w gb O g c X) (hc : Chg O w w') (hO : ∀ b ∈ O', b ∈ O ∨ w.heap.size ≤ b) : TB W w' gb O' g c X :=
  ⟨h.str.keep (hc.block g h.str.lt h.out), not_after hO h.out h.str.lt, h.new, h.ne⟩
theorem Gm.below (h : Gm W w gb d O N s X Y off gn cn vm) (hb : Below w.heap.size w w') : Gm W w' gb d O N s X Y off gn cn vm :=
  ⟨h.sit.below hb, h.gbo, h.gbw, h.xl, h.gm.below hb, h.now.below hb, fun ho => by obtain ⟨h1, g, c, h2, h3⟩ := h.may ho; exact ⟨h1, g, c, h2, h3.below hb⟩⟩
theorem Gm.did (h : Gm W w gb d O N s X Y off gn cn vm) (k : Did w d O N s' w') : ∃ O', Gm W w' gb d O' N s' X Y off gn cn vm ∧ Chg O w w' ∧ ∀ b ∈ O', b ∈ O ∨ w.heap.size ≤ b := by
  obtain ⟨O', h1, h2, h3⟩ := h.sit.did k
  refine ⟨O', ⟨h1, not_after h3 h.gbo h.gm.lt, h.gbw, h.xl, h.gm.keep (h2.block gb h.gm.lt h.gbo), h.now.chg h2 h3, fun ho => ?_⟩, h2, h3⟩
  obtain ⟨g1, g, c, g2, g3⟩ := h.may ho
  exact ⟨g1, g, c, g2, g3.chg h2 h3⟩
end
theorem TB.gset {W w : World} {gb g c j : Nat} {O : List Nat} {X : Secs2} (h : TB W w gb O g c X) (u : Value) : TB W (w.setCell ⟨gb, j, none⟩ u) gb O g c X :=
  ⟨h.str.keep (Below.heap_setCell _ _ _ _ h.ne), h.out, h.new, h.ne⟩
theorem Gm.down {W w : World} {gb d N gn cn : Nat} {O : List Nat} {s : DS} {X Y : Secs2} {off : Bool} {vm : Value} (h : Gm W w gb d O N s X Y off gn cn vm) : Gm W (w.setCell ⟨gb, 3, none⟩ (.bool false)) gb d O N s X [] false gn cn vm :=
  ⟨h.sit.set _ h.gbo h.gbw, h.gbo, h.gbw, h.xl, heap_setCell_at h.gm _, h.now.gset _, fun e => by cases e⟩
theorem Gm.turn {W w : World} {gb d N gn cn g c : Nat} {O : List Nat} {s : DS} {X Y : Secs2} (h : Gm W w gb d O N s X Y true gn cn (.slice (some ⟨g, 0, none⟩) N c)) (ht : TB W w gb O g c Y) (hl : Y.length = N) : Gm W (w.setCell ⟨gb, 1, none⟩ (.slice (some ⟨g, 0, none⟩) N c)) gb d O N s Y Y true g c (.slice (some ⟨g, 0, none⟩) N c) :=
  ⟨h.sit.set _ h.gbo h.gbw, h.gbo, h.gbw, hl, heap_setCell_at h.gm _, ht.gset _, fun _ => ⟨hl, g, c, rfl, ht.gset _⟩⟩
/-- A block of the law's own, beside all that. -/
def Blk (w : World) (O : List Nat) (p : Nat) (o : Obj) : Prop := w.heap[p]? = some o ∧ p ∉ O
section
variable {w w' : World} {O O' : List Nat} {p : Nat} {o : Obj}
theorem Blk.lt (h : Blk w O p o) : p < w.heap.size := (Array.getElem?_eq_some_iff.1 h.1).1
theorem Blk.below (h : Blk w O p o) (hb : Below w.heap.size w w') : Blk w' O p o := ⟨(hb.block p h.lt).trans h.1, h.2⟩
theorem Blk.chg (h : Blk w O p o) (hc : Chg O w w') (hO : ∀ b ∈ O', b ∈ O ∨ w.heap.size ≤ b) : Blk w' O' p o := ⟨(hc.block p h.lt h.2).trans h.1, not_after hO h.2 h.lt⟩
end
theorem OnS.same {N : Nat} {s : DS} {X : Secs2} (h : OnS N s X) : SameX N s X := by
  obtain ⟨L, hR, hw, hD⟩ := h
  intro i h1 h2
  rw [hR.now]
  exact hD.plain h1 h2
theorem OnS.turn {N : Nat} {s : DS} {X Y : Secs2} (h : OnS N s X) (hs : SameX N s Y) : OnS N s Y := by
  obtain ⟨L, hR, hw, hD⟩ := h
  refine ⟨L, hR, hw, DenN.empty hD.head fun i h1 h2 => ?_⟩
  rw [← hs i h1 h2, hR.now]
def stepCells (x : SStep) (A1 : Option Addr) (n1 c1 : Nat) (A2 : Option Addr) (n2 c2 : Nat) : Obj := .cells #[.int .i64 x.what, .int .i64 x.n, .slice A1 n1 c1, .slice A2 n2 c2] 45 (0, 0)
def AgP (W : World) (gb d N : Nat) (e : Ending) (w' : World) : Prop := e = .returned (.bool true) ∧ ∃ O' s' X' gn cn vm, Gm W w' gb d O' N s' X' [] false gn cn vm ∧ OnS N s' X'
theorem rem60 (n : Int) (h : 0 < n) : 0 ≤ n.tmod 60 ∧ n.tmod 60 < 60 := by
  have h1 : n.tmod 60 = n % 60 := Int.tmod_eq_emod_of_nonneg (by omega)
  rw [h1]
  omega
set_option maxRecDepth 20000 in
set_option maxHeartbeats 4000000 in
theorem again_any {W w : World} {gb d : Nat} {O : List Nat} {N : Nat} {s : DS} {X Y : Secs2} {off : Bool} {gn cn : Nat} {vm : Value} {x : SStep} {A1 A2 : Option Addr} {n1 c1 n2 c2 : Nat}
    (h : Gm W w gb d O N s X Y off gn cn vm) (hB : Back N s X (if off then Y else X)) (hV : StepV W (fun q => q < W.heap.size) x A1 n1 c1 A2 n2 c2) :
    Calls Try.prog 20 #[.pointer (some ⟨gb, 0, none⟩), .agg #[.int .i64 x.what, .int .i64 x.n, .slice A1 n1 c1, .slice A2 n2 c2]] w (AgP W gb d N) := by
  have hN := h.sit.drv.n64
  obtain ⟨hN0, hN1⟩ := hN
  have hlt := h.gm.lt
  have HA : Hid (Gm W (w.alloc (stepCells x A1 n1 c1 A2 n2 c2)) gb d O N s X Y off gn cn vm) := h.below ((Below.refl _ _).alloc (Nat.le_refl _) _)
  have HK : Hid (Blk (w.alloc (stepCells x A1 n1 c1 A2 n2 c2)) O w.heap.size (stepCells x A1 n1 c1 A2 n2 c2)) := ⟨heap_alloc_new _ _, fun e => by have := h.sit.drv.lt _ e; omega⟩
  have HB := Lib.hid hB
  have HV := Lib.hid hV
  obtain ⟨what, n, list, keep⟩ := x
  have hlo := hV.lo
  have hhi := hV.hi
  simp only at hlo hhi
  clear h hB hV hlt
  unfold stepCells at HA HK
  go_enter Try.func20, Try.ntmps20
  go_wp2_with fail
  generalize hw1 : (w.alloc (.cells #[.int .i64 what, .int .i64 n, .slice A1 n1 c1, .slice A2 n2 c2] 45)) = w1 at *
  generalize w.heap.size = pb at *
  clear hw1
  have hc0 := HA.out.gm.c0
  have hp3 := cell_of HK.out.1 3
  have hp3' : w1.cell? ⟨pb, 3, none⟩ = some (.slice A2 n2 c2) := hp3
  clear hp3
  go_still_tail 6, (by kernel_rfl)
  change wpList _ _ _ _ _ w1.drew
  have GA : Hid (Gm W w1.drew gb d O N s X Y off gn cn vm) := HA.out.below ⟨rfl, rfl, rfl, Nat.le_refl _, fun _ _ => rfl⟩
  have KA : Hid (Blk w1.drew O pb (.cells #[.int .i64 what, .int .i64 n, .slice A1 n1 c1, .slice A2 n2 c2] 45 (0, 0))) := HK.out
  clear hc0 hp3' HA HK
  generalize w1.drew = w2 at *
  go_wp2_with fail
  refine (restart_any GA.out.sit.drv (HV.out.ints.keep fun q hq => GA.out.sit.bel.block q hq) (fun q hq => ⟨Nat.lt_of_lt_of_le hq GA.out.sit.bel.size, fun e => by have := GA.out.sit.fresh q e; omega⟩)).mono ?_
  rintro e w3 ⟨rfl, hd3⟩
  obtain ⟨O3, h3, hc3, hn3⟩ := GA.out.did hd3
  have G3 := Lib.hid h3
  have K3 := Lib.hid (KA.out.chg hc3 hn3)
  have hp1 : w3.cell? ⟨pb, 1, none⟩ = some (.int .i64 n) := cell_of K3.out.1 1
  have hg0 := G3.out.gm.c0
  clear h3 hc3 hn3 hd3 GA KA
  by_cases hn0 : 0 < n
  · have hn0' : decide (0 < n) = true := by simpa using hn0
    obtain ⟨hm0, hm1⟩ := rem60 n hn0
    go_wp2_with fail
    go_still_tail 7, (by kernel_rfl)
    change wpList _ _ _ _ _ w3.drew
    have GA : Hid (Gm W w3.drew gb d O3 N (s.restart keep) X Y off gn cn vm) := G3.out.below ⟨rfl, rfl, rfl, Nat.le_refl _, fun _ _ => rfl⟩
    have KA : Hid (Blk w3.drew O3 pb (.cells #[.int .i64 what, .int .i64 n, .slice A1 n1 c1, .slice A2 n2 c2] 45 (0, 0))) := K3.out
    clear hg0 hp1 G3 K3
    generalize w3.drew = w4 at *
    generalize n.tmod 60 = m at *
    go_wp2_with fail
    refine (fuseD m GA.out.sit.drv (by omega) (by omega)).mono ?_
    rintro e w5 ⟨rfl, hd5⟩
    obtain ⟨O5, h5, hc5, hn5⟩ := GA.out.did hd5
    have G5 := Lib.hid h5
    have K5 := Lib.hid (KA.out.chg hc5 hn5)
    have hg0 := G5.out.gm.c0
    clear h5 hc5 hn5 hd5 GA KA
    obtain ⟨e6, s6, hr6, he6, hb6⟩ := back_again hN0 HB.out keep m
    go_wp2_with fail
    refine (recover_any G5.out.sit.drv (fun _ => by simp [DS.restart, DS.fuse])).mono ?_
    rintro e w6 ⟨rfl, hd6⟩
    rw [hr6] at hd6 ⊢
    obtain ⟨O6, h6, hc6, hn6⟩ := G5.out.did hd6
    have G6 := Lib.hid h6
    have K6 := Lib.hid (K5.out.chg hc6 hn6)
    have HB6 := Lib.hid hb6
    clear h6 hc6 hn6 hd6 G5 K5 hr6 hb6 hg0
    have hg0 := G6.out.gm.c0
    have hp3 : w6.cell? ⟨pb, 3, none⟩ = some (.slice A2 n2 c2) := cell_of K6.out.1 3
    have hREC : ∃ s', (s6.restart keep).recover N = (0, s') ∧ (OnS N s' X ∨ OnS N s' (if off then Y else X)) := by
      rcases HB6.out with h | h
      · obtain ⟨s', h1, h2⟩ := back_recover hN0 h keep
        exact ⟨s', h1, .inl (h2.elim id id)⟩
      · obtain ⟨s', h1, h2⟩ := back_recover hN0 h keep
        exact ⟨s', h1, .inr (h2.elim id id)⟩
    have HREC := Lib.hid hREC
    clear hREC HB6
    rcases he6 with rfl | rfl
    all_goals
      go_wp2_with fail
      go_still_tail 6, (by kernel_rfl)
      change wpList _ _ _ _ _ w6.drew
      have GA : Hid (Gm W w6.drew gb d O6 N s6 X Y off gn cn vm) := G6.out.below ⟨rfl, rfl, rfl, Nat.le_refl _, fun _ _ => rfl⟩
      clear hg0 hp3 G6 K6
      generalize w6.drew = w7 at *
      go_wp2_with fail
      refine (restart_any GA.out.sit.drv (HV.out.ints.keep fun q hq => GA.out.sit.bel.block q hq) (fun q hq => ⟨Nat.lt_of_lt_of_le hq GA.out.sit.bel.size, fun e => by have := GA.out.sit.fresh q e; omega⟩)).mono ?_
      rintro e wA ⟨rfl, hdA⟩
      obtain ⟨OA, hA, hcA, hnA⟩ := GA.out.did hdA
      have GM := Lib.hid hA
      have HSI : Hid ((s6.restart keep).since = []) := rfl
      clear hA hcA hnA hdA GA
      have hg0 := GM.out.gm.c0
      go_wp2_with fail
      refine (recover_any GM.out.sit.drv (fun _ => by rw [HSI.out]; simp)).mono ?_
      rintro e w8 ⟨rfl, hd8⟩
      obtain ⟨s', hrec, hon⟩ := HREC.out
      rw [hrec] at hd8 ⊢
      obtain ⟨O8, h8, _, _⟩ := GM.out.did hd8
      have G8 := Lib.hid h8
      have HON := Lib.hid hon
      have HDN : Hid (s'.down = false) := by rcases hon with h | h <;> exact h.down
      clear hrec hon hd8 h8 GM HREC HSI
      have hg0 := G8.out.gm.c0
      have hg1 := G8.out.gm.c1
      have hg2 := G8.out.gm.c2
      have hg3 := G8.out.gm.c3
      have hf3 := G8.out.gm.fr 3
      have hf1 := G8.out.gm.fr 1
      cases off with
      | false =>
        have HON2 : Hid (OnS N s' X) := by rcases HON.out with h | h <;> exact h
        have HSM : Hid (decide (SameX N s' X) = true) := by show _ = _; rw [decide_eq_true_eq]; exact HON2.out.same
        have G9 := Lib.hid G8.out.down
        clear HON
        go_wp2_with fail
        refine (same_any G9.out.sit.drv HDN.out G9.out.gm G9.out.now.str G9.out.xl).mono ?_
        rintro e w9 ⟨rfl, hb9⟩
        rw [HSM.out]
        have G10 := Lib.hid (G9.out.below hb9)
        clear hb9
        go_wp2_with fail
        go_ret
        exact ⟨rfl, O8, s', X, gn, cn, vm, G10.out, HON2.out⟩
      | true =>
        obtain ⟨hyl, gm, cm, rfl, hty⟩ := G8.out.may rfl
        have HYL := Lib.hid hyl
        have HTY := Lib.hid hty
        clear hyl hty
        go_wp2_with fail
        refine (same_any G8.out.sit.drv HDN.out G8.out.gm HTY.out.str HYL.out).mono ?_
        rintro e w9 ⟨rfl, hb9⟩
        have G9 := Lib.hid (G8.out.below hb9)
        have HTY9 := Lib.hid (HTY.out.below hb9)
        clear hb9 hg0 hg1 hg2 hg3 hf3 hf1
        have hg0 := G9.out.gm.c0
        have hg1 := G9.out.gm.c1
        have hg2 := G9.out.gm.c2
        have hg3 := G9.out.gm.c3
        have hf3 := G9.out.gm.fr 3
        have hf1 := G9.out.gm.fr 1
        by_cases hs : SameX N s' Y
        · have HSM : Hid (decide (SameX N s' Y) = true) := by show _ = _; simpa using hs
          have HON2 : Hid (OnS N s' Y) := by
            rcases HON.out with h | h
            · exact h.turn hs
            · exact h
          have G10 := Lib.hid (G9.out.turn HTY9.out HYL.out).down
          rw [HSM.out]
          clear hs HON
          go_wp2_with fail
          refine (same_any G10.out.sit.drv HDN.out G10.out.gm G10.out.now.str G10.out.xl).mono ?_
          rintro e w11 ⟨rfl, hb11⟩
          rw [HSM.out]
          have G11 := Lib.hid (G10.out.below hb11)
          clear hb11
          go_wp2_with fail
          go_ret
          exact ⟨rfl, O8, s', Y, gm, cm, _, G11.out, HON2.out⟩
        · have HSM : Hid (decide (SameX N s' Y) = false) := by show _ = _; simpa using hs
          have HON2 : Hid (OnS N s' X) := by
            rcases HON.out with h | h
            · exact h
            · exact absurd h.same hs
          have HSX : Hid (decide (SameX N s' X) = true) := by show _ = _; rw [decide_eq_true_eq]; exact HON2.out.same
          have G10 := Lib.hid G9.out.down
          rw [HSM.out]
          clear hs HON
          go_wp2_with fail
          refine (same_any G10.out.sit.drv HDN.out G10.out.gm G10.out.now.str G10.out.xl).mono ?_
          rintro e w11 ⟨rfl, hb11⟩
          rw [HSX.out]
          have G11 := Lib.hid (G10.out.below hb11)
          clear hb11
          go_wp2_with fail
          go_ret
          exact ⟨rfl, O8, s', X, gn, cn, _, G11.out, HON2.out⟩
  · have hn0' : decide (0 < n) = false := by simpa using hn0
    go_wp2_with fail
    have GM := Lib.hid G3.out
    have HSI : Hid ((s.restart keep).since = []) := rfl
    have HREC := Lib.hid (back_recover hN0 HB.out keep)
    refine (recover_any GM.out.sit.drv (fun _ => by rw [HSI.out]; simp)).mono ?_
    rintro e w8 ⟨rfl, hd8⟩
    obtain ⟨s', hrec, hon⟩ := HREC.out
    rw [hrec] at hd8 ⊢
    obtain ⟨O8, h8, _, _⟩ := GM.out.did hd8
    have G8 := Lib.hid h8
    have HON := Lib.hid hon
    have HDN : Hid (s'.down = false) := by rcases hon with h | h <;> exact h.down
    clear hrec hon hd8 h8 GM HREC HSI
    have hg0 := G8.out.gm.c0
    have hg1 := G8.out.gm.c1
    have hg2 := G8.out.gm.c2
    have hg3 := G8.out.gm.c3
    have hf3 := G8.out.gm.fr 3
    have hf1 := G8.out.gm.fr 1
    cases off with
    | false =>
      have HON2 : Hid (OnS N s' X) := by rcases HON.out with h | h <;> exact h
      have HSM : Hid (decide (SameX N s' X) = true) := by show _ = _; rw [decide_eq_true_eq]; exact HON2.out.same
      have G9 := Lib.hid G8.out.down
      clear HON
      go_wp2_with fail
      refine (same_any G9.out.sit.drv HDN.out G9.out.gm G9.out.now.str G9.out.xl).mono ?_
      rintro e w9 ⟨rfl, hb9⟩
      rw [HSM.out]
      have G10 := Lib.hid (G9.out.below hb9)
      clear hb9
      go_wp2_with fail
      go_ret
      exact ⟨rfl, O8, s', X, gn, cn, vm, G10.out, HON2.out⟩
    | true =>
      obtain ⟨hyl, gm, cm, rfl, hty⟩ := G8.out.may rfl
      have HYL := Lib.hid hyl
      have HTY := Lib.hid hty
      clear hyl hty
      go_wp2_with fail
      refine (same_any G8.out.sit.drv HDN.out G8.out.gm HTY.out.str HYL.out).mono ?_
      rintro e w9 ⟨rfl, hb9⟩
      have G9 := Lib.hid (G8.out.below hb9)
      have HTY9 := Lib.hid (HTY.out.below hb9)
      clear hb9 hg0 hg1 hg2 hg3 hf3 hf1
      have hg0 := G9.out.gm.c0
      have hg1 := G9.out.gm.c1
      have hg2 := G9.out.gm.c2
      have hg3 := G9.out.gm.c3
      have hf3 := G9.out.gm.fr 3
      have hf1 := G9.out.gm.fr 1
      by_cases hs : SameX N s' Y
      · have HSM : Hid (decide (SameX N s' Y) = true) := by show _ = _; simpa using hs
        have HON2 : Hid (OnS N s' Y) := by
          rcases HON.out with h | h
          · exact h.turn hs
          · exact h
        have G10 := Lib.hid (G9.out.turn HTY9.out HYL.out).down
        rw [HSM.out]
        clear hs HON
        go_wp2_with fail
        refine (same_any G10.out.sit.drv HDN.out G10.out.gm G10.out.now.str G10.out.xl).mono ?_
        rintro e w11 ⟨rfl, hb11⟩
        rw [HSM.out]
        have G11 := Lib.hid (G10.out.below hb11)
        clear hb11
        go_wp2_with fail
        go_ret
        exact ⟨rfl, O8, s', Y, gm, cm, _, G11.out, HON2.out⟩
      · have HSM : Hid (decide (SameX N s' Y) = false) := by show _ = _; simpa using hs
        have HON2 : Hid (OnS N s' X) := by
          rcases HON.out with h | h
          · exact h
          · exact absurd h.same hs
        have HSX : Hid (decide (SameX N s' X) = true) := by show _ = _; rw [decide_eq_true_eq]; exact HON2.out.same
        have G10 := Lib.hid G9.out.down
        rw [HSM.out]
        clear hs HON
        go_wp2_with fail
        refine (same_any G10.out.sit.drv HDN.out G10.out.gm G10.out.now.str G10.out.xl).mono ?_
        rintro e w11 ⟨rfl, hb11⟩
        rw [HSX.out]
        have G11 := Lib.hid (G10.out.below hb11)
        clear hb11
        go_wp2_with fail
        go_ret
        exact ⟨rfl, O8, s', X, gn, cn, _, G11.out, HON2.out⟩
end Go.Proofs.Ytlhkkelpombbiaa
