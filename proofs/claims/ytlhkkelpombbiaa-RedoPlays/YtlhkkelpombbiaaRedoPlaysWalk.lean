/- RedoPlays, walked. -/
import Derived.Test.YtlhkkelpombbiaaPlayA
import Derived.Deep.RegionWith
namespace Go.Proofs.Ytlhkkelpombbiaa.redoPlays
open Go.RowKit
set_option linter.unusedVariables false

/-- The game between two steps. -/
def Mid (W w : World) (gb d N : Nat) : Prop := ∃ O s X Y off gn cn vm, Gm W w gb d O N s X Y off gn cn vm ∧ (off = true → s.down = true ∧ Back N s X Y) ∧ (off = false → OnS N s X)
set_option maxRecDepth 100000 in
set_option maxHeartbeats 8000000 in
theorem walk (W : World) (sec : Nat) (hsec : sec < 65536) (A : Option Addr) (n c : Nat) (l : List SStep) (hL : Stps W (fun q => q < W.heap.size) A n c l) :
    Calls Try.prog 4 #[.int .u16 (sec : Int), .slice A n c] W fun e w' => e = .returned (.bool true) ∧ Below W.heap.size W w' := by
  have HL := Lib.hid hL
  have hlim := hL.lim
  have hcap := hL.cap
  unfold maxLen at hlim
  clear hL
  have hsc : 64 + (sec : Int) % 100 = ((64 + sec % 100 : Nat) : Int) := by omega
  have hN0 : 64 ≤ 64 + sec % 100 := by omega
  have hN1 : 64 + sec % 100 ≤ 163 := by omega
  generalize hN : 64 + sec % 100 = N at *
  clear hN
  go_enter Try.func4, Try.ntmps4
  go_wp2_with fail
  refine (begin_any N W (by omega) (by omega)).mono ?_
  rintro e w0 ⟨d, O, rfl, hO⟩
  have S0 := Lib.hid hO
  clear hO
  go_wp2_with fail
  refine (awake_any _).mono ?_
  rintro e w1 ⟨rfl, hb1⟩
  have hnew : (w0.alloc (.cells #[.pointer (some ⟨d, 0, none⟩), .slice none 0 0, .slice none 0 0, .bool false] 41)).heap[w0.heap.size]? = some (.cells #[.pointer (some ⟨d, 0, none⟩), .slice none 0 0, .slice none 0 0, .bool false] 41 (0, 0)) := heap_alloc_new _ _
  have S1 := Lib.hid (Ons.below (Ons.below S0.out ((Below.refl _ w0).alloc (Nat.le_refl _) (.cells #[.pointer (some ⟨d, 0, none⟩), .slice none 0 0, .slice none 0 0, .bool false] 41))) hb1)
  have G1 : Hid (GameAt w1 w0.heap.size d (.slice none 0 0) (.slice none 0 0) false) := (hb1.block _ (by simp)).trans hnew
  have HGO : Hid (w0.heap.size ∉ O) := fun e => by have := S0.out.sit.drv.lt _ e; omega
  have hgw := S0.out.sit.bel.size
  clear hnew hb1 S0
  generalize w0.heap.size = gb at *
  have hg0 := G1.out.c0
  have hw1 := S1.out.sit.bel.size
  go_wp2_with fail
  go_loopw [7] (fun i wr => ∃ k : Nat, ∃ v : Value, k ≤ N ∧ i = .int .i64 k ∧ Hid (Ons W wr d O N (begS N) (X0 N)) ∧ Hid (GameAt wr gb d v (.slice none 0 0) false) ∧ Hid (wr.ownsRow w1.heap.size 9 1 v k (zrow k)) ∧ Hid (w1.heap.size ≤ wr.heap.size)) (fun i _ => N - (intOf i).toNat)
  case atStart => exact ⟨0, .slice none 0 0, Nat.zero_le _, rfl, S1, G1, World.ownsRow_nil _ _ _ _, Nat.le_refl _⟩
  case round =>
    have HOL : Hid (∀ b ∈ O, b < w1.heap.size) := S1.out.sit.drv.lt
    have HGL : Hid (gb < w1.heap.size) := G1.out.lt
    clear S1 G1 hg0
    obtain ⟨k, v, hk, rfl, S, G, HR, HZ⟩ := hrel
    by_cases hlt : k < N
    · have hc1 := G.out.c1
      have hf1 := G.out.fr 1
      have hlg : gb < wr.heap.size := G.out.lt
      have hc1a : (wr.alloc (.cells (bc zeros).toArray 5)).cell? ⟨gb, 1, none⟩ = some v := by rw [World.cell?_alloc_lt _ _ _ hlg]; exact hc1
      have hc1b : ((wr.alloc (.cells (bc zeros).toArray 5)).alloc (.cells #[.string (sb zeros)] 9)).cell? ⟨gb, 1, none⟩ = some v := by rw [World.cell?_alloc_lt _ _ _ (by show gb < _; simp; omega)]; exact hc1a
      obtain ⟨v', w', hr, ho, hgr⟩ := appZ_run (w := wr.drew) HR.out (by omega) HZ.out
      have hm := make128_all wr.drew
      have hO0 : Own (wr.drew.alloc (.cells (bc zeros).toArray 5)) wr.drew.heap.size zeros := ⟨5, heap_alloc_new _ _⟩
      have hcv : (convert 23 9 (.slice (some ⟨wr.heap.size, 0, none⟩) 128 128)).run Try.prog (wr.drew.alloc (.cells (bc zeros).toArray 5)) = .ok (.string (sb zeros)) (wr.drew.alloc (.cells (bc zeros).toArray 5)) := hO0.str zeros_len
      have hcv2 : (convert 23 9 (.slice (some ⟨wr.heap.size, 0, none⟩) 128 128)).run Try.prog (wr.alloc (.cells (bc zeros).toArray 5)).drew = .ok (.string (sb zeros)) (wr.alloc (.cells (bc zeros).toArray 5)).drew := hcv
      have HRUN : Hid ((Builtin.append_ #[39, 39] 39 #[v, .slice (some ⟨wr.heap.size + 1, 0, none⟩) 1 1]).run Try.prog ((wr.alloc (.cells (bc zeros).toArray 5)).alloc (.cells #[.string (sb zeros)] 9)).drew = .ok v' w') := hr
      have hgl := HGL.out
      have hzz := HZ.out
      have hke : ∀ q, q < wr.heap.size → v.ownBlock ≠ some q → w'.heap[q]? = wr.heap[q]? := fun q hq hn => by
        rw [hgr.block q (by simp; omega) (fun e => hn e.symm), Below.heap_alloc _ _ _ (by simp; omega), Below.heap_alloc wr.drew _ _ hq]
        rfl
      have hvo : ∀ q, q < w1.heap.size → v.ownBlock ≠ some q := fun q hq e => by have := (HR.out.lt q e).1; omega
      have G2 : GameAt w' gb d v (.slice none 0 0) false := G.out.keep (hke gb (by omega) (hvo gb hgl))
      have hd1 := G2.c1
      have he1 := G2.fr 1
      have hsz' : wr.heap.size ≤ w'.heap.size := by have := hgr.size; simp at this; omega
      have SN : Hid (Ons W (w'.setCell ⟨gb, 1, none⟩ v') d O N (begS N) (X0 N)) := by
        have hbel : Below w1.heap.size wr w' := ⟨hgr.os, hgr.tape, hgr.output, hsz', fun q hq => hke q (by omega) (hvo q hq)⟩
        refine ⟨⟨S.out.sit.drv.keep fun q hq => ?_, S.out.sit.fresh, (S.out.sit.bel.trans (hbel.mono hw1)).setCell (p := ⟨gb, 1, none⟩) hgw _⟩, S.out.on, S.out.len, S.out.free⟩
        rw [Below.heap_setCell _ _ _ _ (fun e => HGO.out (by have e' : q = gb := e; rw [← e']; exact hq))]
        exact hke q (by have := HOL.out q hq; omega) (hvo q (HOL.out q hq))
      have GN : Hid (GameAt (w'.setCell ⟨gb, 1, none⟩ v') gb d v' (.slice none 0 0) false) := heap_setCell_at G2 _
      have RN : Hid ((w'.setCell ⟨gb, 1, none⟩ v').ownsRow w1.heap.size 9 1 v' (k + 1) (zrow (k + 1))) :=
        ownsRow_keep ho fun q hq => Below.heap_setCell _ _ _ _ (by have := (ho.lt q hq).1; show q ≠ gb; omega)
      have ZN : Hid (w1.heap.size ≤ (w'.setCell ⟨gb, 1, none⟩ v').heap.size) := by show _ ≤ _; simp; omega
      obtain ⟨gq, cq, hvq⟩ : ∃ gq cq, v' = .slice (some ⟨gq, 0, none⟩) (k + 1) cq := by
        rcases ho.2 with ⟨_, e⟩ | ⟨g, cap, cur, e, _⟩
        · omega
        · exact ⟨g, cap, e⟩
      subst hvq
      clear hr hO0 ho hgr hke hvo G2 hcv
      go_wp2_with fail
      go_region_law (refine step_append_run rfl _ _ 39 rfl _ _ _ _ rfl rfl HRUN.out ?_)
      all_goals
        go_wp2_with fail
        exact ⟨⟨k + 1, _, by omega, by go_num, SN, GN, RN, ZN⟩, by simp [intOf]; omega⟩
    · obtain rfl : N = k := by omega
      have hzr : wr.ownsRow w1.heap.size 9 1 v (List.replicate N zeros).length ((List.replicate N zeros).map tv) := by
        rw [List.length_replicate]
        exact HR.out
      obtain ⟨gn, cn, hv, hgn, hS0⟩ := own_strb hzr (by simp; omega)
      rw [List.length_replicate] at hv
      subst hv
      have hg0 := G.out.c0
      have hx1 : (X0 N)[1]? = some (hd []) := by unfold X0; rw [List.getElem?_set_self (by simp; omega)]
      have HGT := Lib.hid (get_ok (s := begS N) 1 S.out.sit.drv rfl hx1)
      have HS0 := Lib.hid hS0
      obtain ⟨hcn1, hcn2⟩ := hS0.room
      rw [List.length_replicate] at hcn1
      unfold maxLen at hcn2
      have hzz := HZ.out
      have hgl := HGL.out
      clear hzr hS0 hx1 HR
      go_wp2_with fail
      refine HGT.out.mono ?_
      rintro e w2 ⟨b2, rfl, hb21, hb22, hb23⟩
      have S2 := Lib.hid (Ons.below S.out hb23)
      have G2 := Lib.hid (G.out.below hb23)
      have HS2 := Lib.hid (HS0.out.below hb23)
      have hg1 := G2.out.c1
      have hcv : ∀ W', W'.heap = w2.heap → (convert 23 9 (.slice (some ⟨b2, 0, none⟩) 128 128)).run Try.prog W' = .ok (.string (sb (hd []))) W' := fun W' hW => Own.str (w := W') ⟨80, by rw [hW]; exact hb22⟩ (hd_len (good_iff.1 good_nil).1)
      have hcv1 := hcv w2.drew rfl
      have hcv2 := hcv { heap := w2.heap, tape := w2.tape, drawn := w2.drawn + 1, os := w2.os, output := w2.output } rfl
      have hs1 := HS2.out.cell (j := 1) (x := zeros) (by rw [List.getElem?_replicate, if_pos (by omega)])
      have hsf := HS2.out.frozen 1
      unfold tv at hs1
      have hN8 : (1 : Int) < (N : Int) := by omega
      have GMH : Hid (Gm W (w2.setCell ⟨gn, 1, none⟩ (tv (hd []))).drew gb d O N (begS N) (X0 N) [] false gn cn (.slice none 0 0)) := by
        have hne : gn ≠ gb := by omega
        have hno : gn ∉ O := fun e => by have := HOL.out _ e; omega
        refine ⟨⟨S2.out.sit.drv.keep fun q hq => Below.heap_setCell w2 ⟨gn, 1, none⟩ _ q (fun e => hno (by have e' : q = gn := e; rw [← e']; exact hq)), S2.out.sit.fresh, (S2.out.sit.bel.setCell (p := ⟨gn, 1, none⟩) (by show _ ≤ gn; omega) _).drew⟩, HGO.out, hgw, S2.out.len, ?_, ⟨(HS2.out.set (j := 1) (by simp; omega) (hd [])).keep rfl, hno, by omega, hne⟩, fun e => by cases e⟩
        exact G2.out.keep (Below.heap_setCell w2 ⟨gn, 1, none⟩ _ gb (fun e => hne (by have e' : gb = gn := e; rw [e'])))
      have HON := Lib.hid (beg_on (N := N) hN0)
      clear hb22 hb23 hcv S HS0 HGT
      go_wp2_with fail
      go_still_tail 7, (by kernel_rfl)
      change wpList _ _ _ _ _ w2.drew
      have hs1' : w2.drew.cell? ⟨gn, 1, none⟩ = some (.string (sb zeros)) := hs1
      have hsf' : w2.drew.frozen? ⟨gn, 1, none⟩ = false := hsf
      go_wp2_with fail
      have HMID : Hid (Mid W (w2.setCell ⟨gn, 1, none⟩ (.string (sb (hd [])))).drew gb d N) := ⟨O, begS N, X0 N, [], false, gn, cn, _, GMH.out, (fun e => by cases e), fun _ => HON.out⟩
      clear GMH
      generalize (w2.setCell ⟨gn, 1, none⟩ (.string (sb (hd [])))).drew = w4 at *
      clear HON G2 S2 HS2 hg0 hg1 hs1 hsf hs1' hsf' hcv1 hcv2 G HZ hzz hgl HOL HGL hb21 hgn hcn1 hcn2 HGO hN8 hw1
      go_loopw [10] (fun i wr => ∃ k : Nat, k ≤ n ∧ i = .int .i64 k ∧ Hid (Mid W wr gb d N)) (fun i _ => n - (intOf i).toNat)
      case atStart => exact ⟨0, Nat.zero_le _, rfl, HMID⟩
      case round =>
        clear HMID
        obtain ⟨k, hk, rfl, HMID⟩ := hrel
        obtain ⟨O, s, X, Y, off, gn, cn, vm, hG, hst1, hst2⟩ := HMID.out
        have GM := Lib.hid hG
        have ST1 := Lib.hid hst1
        have ST2 := Lib.hid hst2
        clear hG hst1 hst2 HMID
        by_cases hlt : k < n ∧ k < 30
        · obtain ⟨hlt, h30⟩ := hlt
          have h30' : decide ((k : Int) < 30) = true := by simp; omega
          obtain ⟨x, hx⟩ : ∃ x, l[k]? = some x := ⟨_, List.getElem?_eq_getElem (by rw [HL.out.len]; exact hlt)⟩
          obtain ⟨b, o, rfl, hb, hsa⟩ := HL.out.get hx
          obtain ⟨A1, n1, c1, A2, n2, c2, h0, h1, h2, h3, hV⟩ := hsa.keep (w' := wr) hb (fun q hq => GM.out.sit.bel.block q hq)
          have HV : Hid (StepV W (fun q => q < W.heap.size) x A1 n1 c1 A2 n2 c2) := hV.keep_ fun q hq => (GM.out.sit.bel.block q hq).symm
          obtain ⟨what, m, ws, keep⟩ := x
          have hlo := hV.lo
          have hhi := hV.hi
          simp only at hlo hhi h0 h1
          have GA : Hid (Gm W (wr.alloc (.cells #[.int .i64 what, .int .i64 m, .slice A1 n1 c1, .slice A2 n2 c2] 45)) gb d O N s X Y off gn cn vm) := GM.out.below ((Below.refl _ _).alloc (Nat.le_refl _) _)
          have KA : Hid (Blk (wr.alloc (.cells #[.int .i64 what, .int .i64 m, .slice A1 n1 c1, .slice A2 n2 c2] 45)) O wr.heap.size (.cells #[.int .i64 what, .int .i64 m, .slice A1 n1 c1, .slice A2 n2 c2] 45 (0, 0))) := ⟨heap_alloc_new _ _, fun e => by have := GM.out.sit.drv.lt _ e; omega⟩
          clear hx hsa hV GM
          have HC : Hid ((s.down = false → s.since.length ≤ 1000000) ∧ (s.down = false → ∀ ns, isHd (s.now[1]?.getD []) = some ns → ns = [])) := by
            have key : s.down = false → OnS N s X := fun hdn => ST2.out (by
              cases off with
              | false => rfl
              | true => rw [(ST1.out rfl).1] at hdn; cases hdn)
            exact ⟨fun h => by rw [(key h).since]; simp, fun h => (key h).left⟩
          by_cases e0 : what = 0
          · subst e0
            go_wp2_with fail
            generalize (wr.alloc (.cells #[.int .i64 0, .int .i64 m, .slice A1 n1 c1, .slice A2 n2 c2] 45)) = w1 at *
            generalize wr.heap.size = pb at *
            clear h0 h1 h2 h3
            have hc0 := GA.out.gm.c0
            have hp2 : w1.cell? ⟨pb, 2, none⟩ = some (.slice A1 n1 c1) := cell_of KA.out.1 2
            go_still_tail 6, (by kernel_rfl)
            change wpList _ _ _ _ _ w1.drew
            have GB : Hid (Gm W w1.drew gb d O N s X Y off gn cn vm) := GA.out.below ⟨rfl, rfl, rfl, Nat.le_refl _, fun _ _ => rfl⟩
            have KB : Hid (Blk w1.drew O pb (.cells #[.int .i64 0, .int .i64 m, .slice A1 n1 c1, .slice A2 n2 c2] 45 (0, 0))) := KA.out
            clear hc0 hp2 GA KA
            generalize w1.drew = w2 at *
            have HFREE : Hid (Free w2 O (fun q => q < W.heap.size)) := fun q hq => ⟨Nat.lt_of_lt_of_le hq GB.out.sit.bel.size, fun e => by have := GB.out.sit.fresh q e; omega⟩
            have HWR := Lib.hid (HV.out.wrs.keep (w' := w2) fun q hq => GB.out.sit.bel.block q hq)
            have hsml := HV.out.sml
            obtain ⟨e1, s1, hcm⟩ : ∃ e1 s1, s.commit N ws = (e1, s1) := ⟨_, _, rfl⟩
            have HCM := Lib.hid hcm
            obtain ⟨q, hcq⟩ : ∃ q, chkE N ws = q := ⟨_, rfl⟩
            have HCQ := Lib.hid hcq
            clear hcm hcq
            go_wp2_with fail
            refine (commit_any GB.out.sit.drv HWR.out HFREE.out (by omega) HC.out.1 HC.out.2).mono ?_
            rintro e w3 ⟨rfl, hd3⟩
            rw [HCM.out] at hd3 ⊢
            obtain ⟨O3, h3, hc3, hn3⟩ := GB.out.did hd3
            have G3 := Lib.hid h3
            have K3 := Lib.hid (KB.out.chg hc3 hn3)
            have HWR3 := Lib.hid (HV.out.wrs.keep (w' := w3) fun q hq => G3.out.sit.bel.block q hq)
            clear h3 hc3 hn3 hd3 GB KB HWR HFREE
            have hp2 : w3.cell? ⟨pb, 2, none⟩ = some (.slice A1 n1 c1) := cell_of K3.out.1 2
            go_wp2_with fail
            refine (check_any N HWR3.out (fun q hq => Nat.lt_of_lt_of_le hq G3.out.sit.bel.size) hsml (by omega)).mono ?_
            rintro e w4 ⟨rfl, hb4⟩
            rw [HCQ.out]
            have G4 := Lib.hid (G3.out.below hb4)
            have K4 := Lib.hid (K3.out.below hb4)
            have HWR4 := Lib.hid (HWR3.out.keep (w' := w4) fun q hq => hb4.block q (Nat.lt_of_lt_of_le hq G3.out.sit.bel.size))
            clear hb4 hp2 G3 K3 HWR3 HC
            have hp2 : w4.cell? ⟨pb, 2, none⟩ = some (.slice A1 n1 c1) := cell_of K4.out.1 2
            have hg1 := G4.out.gm.c1
            have hg3 := G4.out.gm.c3
            have hf1 := G4.out.gm.fr 1
            have hf2 := G4.out.gm.fr 2
            have hf3 := G4.out.gm.fr 3
            have HLN : Hid (ws.length = n1) := HWR4.out.len
            rcases commit_cases hN0 G4.out.xl ST1.out ST2.out HCM.out HCQ.out with ⟨rfl, rfl, rfl⟩ | ⟨rfl, rfl, hw, rfl, rfl⟩ | ⟨rfl, rfl, hw, rfl, rfl⟩ | ⟨rfl, rfl, rfl, hon, hov⟩ | ⟨rfl, rfl, hw, rfl, hdn, hbk, hov⟩
            · have HM : Hid (Mid W w4 gb d N) := ⟨O3, _, X, Y, off, gn, cn, vm, G4.out, ST1.out, ST2.out⟩
              go_wp2_with fail
              go_roundw
              case rel => exact ⟨k + 1, by omega, by go_num, HM⟩
              case measure => simp [intOf]; omega
            · have HM : Hid (Mid W w4 gb d N) := ⟨O3, _, X, Y, true, gn, cn, vm, G4.out, ST1.out, ST2.out⟩
              obtain rfl : n1 = 0 := by rw [← HLN.out, hw]; rfl
              clear hw
              go_wp2_with fail
              go_roundw
              case rel => exact ⟨k + 1, by omega, by go_num, HM⟩
              case measure => simp [intOf]; omega
            · have HM : Hid (Mid W w4 gb d N) := ⟨O3, _, X, Y, true, gn, cn, vm, G4.out, ST1.out, ST2.out⟩
              clear hw
              go_wp2_with fail
              go_roundw
              case rel => exact ⟨k + 1, by omega, by go_num, HM⟩
              case measure => simp [intOf]; omega
            · have HON := Lib.hid hon
              have HOV := Lib.hid hov
              clear hon hov
              have G4d : Hid (Gm W w4.drew gb d O3 N s1 X Y false gn cn vm) := G4.out.below ⟨rfl, rfl, rfl, Nat.le_refl _, fun _ _ => rfl⟩
              have HPUT := Lib.hid (put6_any (w := w4.drew) G4d.out.now.str (HWR4.out.keep fun _ _ => rfl) (fun q hq => Nat.lt_of_lt_of_le hq G4d.out.sit.bel.size) (by rw [G4.out.xl]; omega) (by rw [G4.out.xl]; omega) (by rw [G4.out.xl]; exact HOV.out))
              rw [G4.out.xl] at HPUT
              have HXL : Hid ((lay X (toW ws)).length = N) := by show _ = _; rw [lay_len, G4.out.xl]
              go_wp2_with fail
              go_region_with (go_at_call 17; refine HPUT.out.mono ?_; rintro e w5 ⟨gp, cp, rfl, hp1, hp2, hp3⟩; rw [HXL.out]; have G5 := Lib.hid (G4d.out.below hp3); have HP2 := Lib.hid hp2; have HP3 := Lib.hid hp3; have hq1 := G5.out.gm.c1; have hq2 := G5.out.gm.fr 1; clear hp2 hp3)
              all_goals
                have HM : Hid (Mid W (w5.setCell ⟨gb, 1, none⟩ (.slice (some ⟨gp, 0, none⟩) N cp)) gb d N) := ⟨O3, s1, _, Y, false, gp, cp, vm, G5.out.newNow (TB.fresh G4d.out hp1 HP2.out) HXL.out, (fun e => by cases e), fun _ => HON.out⟩
                clear G4 G4d G5 HPUT HP2 HP3
                go_wp2_with fail
                exact ⟨⟨k + 1, by omega, by go_num, HM⟩, by simp [intOf]; omega⟩
            · have HDN := Lib.hid hdn
              have HBK := Lib.hid hbk
              have HOV := Lib.hid hov
              have hn1a : 0 < n1 := by rw [← HLN.out]; exact List.length_pos_iff.2 hw
              have hn1b : (0 : Int) < (n1 : Int) := by omega
              have hn1c : decide (0 < n1) = true := by simpa using hn1a
              clear hdn hbk hov hw
              have G5 := Lib.hid G4.out.up
              have HWR5 := Lib.hid (HWR4.out.keep (w' := w4.setCell ⟨gb, 3, none⟩ (.bool true)) fun q hq => Below.heap_setCell _ _ _ _ (by show q ≠ gb; omega))
              have K5 : Hid (Blk (w4.setCell ⟨gb, 3, none⟩ (.bool true)) O3 pb (.cells #[.int .i64 0, .int .i64 m, .slice A1 n1 c1, .slice A2 n2 c2] 45 (0, 0))) := by
                refine ⟨(Below.heap_setCell _ _ _ _ ?_).trans K4.out.1, K4.out.2⟩
                intro e
                have e' : pb = gb := e
                have h1 := K4.out.1
                rw [e', G4.out.gm] at h1
                simp at h1
              go_wp2_with fail
              clear hp2 hg1 hg3 hf1 hf2 hf3 K4 HWR4
              generalize w4.setCell ⟨gb, 3, none⟩ (.bool true) = w6 at *
              have hp2 : w6.cell? ⟨pb, 2, none⟩ = some (.slice A1 n1 c1) := cell_of K5.out.1 2
              have hg1 := G5.out.gm.c1
              have G5d : Hid (Gh W w6.drew gb d O3 N s1 X true gn cn vm) := G5.out.below ⟨rfl, rfl, rfl, Nat.le_refl _, fun _ _ => rfl⟩
              have HPUT := Lib.hid (put6_any (w := w6.drew) G5d.out.now.str (HWR5.out.keep fun _ _ => rfl) (fun q hq => Nat.lt_of_lt_of_le hq G5d.out.sit.bel.size) (by rw [G5.out.xl]; omega) (by rw [G5.out.xl]; omega) (by rw [G5.out.xl]; exact HOV.out))
              rw [G5.out.xl] at HPUT
              have HXL : Hid ((lay X (toW ws)).length = N) := by show _ = _; rw [lay_len, G5.out.xl]
              go_region_with (go_at_call 17; refine HPUT.out.mono ?_; rintro e w7 ⟨gp, cp, rfl, hp1, hp2, hp3⟩; rw [HXL.out]; have G7 := Lib.hid (G5d.out.below hp3); have HP2 := Lib.hid hp2; have HP3 := Lib.hid hp3; have hq1 := G7.out.gm.c2; have hq2 := G7.out.gm.fr 2; clear hp2 hp3)
              all_goals
                have HM : Hid (Mid W (w7.setCell ⟨gb, 2, none⟩ (.slice (some ⟨gp, 0, none⟩) N cp)) gb d N) := ⟨O3, s1, X, _, true, gn, cn, _, G7.out.may (TB.freshH G5d.out hp1 HP2.out) HXL.out, (fun _ => ⟨HDN.out, HBK.out⟩), fun e => by cases e⟩
                clear G4 G5 G5d G7 HPUT HP2 HP3
                go_wp2_with fail
                exact ⟨⟨k + 1, by omega, by go_num, HM⟩, by simp [intOf]; omega⟩
          have e0' : (what == 0) = false := by simpa using e0
          by_cases e1 : what = 1
          · subst e1
            clear e0'
            have hBA := GA.out.gm.c0
            have hBB := GA.out.gm.c3
            go_wp2_with fail
            generalize (wr.alloc (.cells #[.int .i64 1, .int .i64 m, .slice A1 n1 c1, .slice A2 n2 c2] 45)) = w1 at *
            generalize wr.heap.size = pb at *
            refine (recover_any GA.out.sit.drv HC.out.1).mono ?_
            rintro e w2 ⟨rfl, hd2⟩
            cases off with
            | true =>
              rw [down_recover (ST1.out rfl).1] at hd2 ⊢
              obtain ⟨O2, h2', _, _⟩ := GA.out.did hd2
              have G2 := Lib.hid h2'
              have hg3 := G2.out.gm.c3
              have HM : Hid (Mid W w2 gb d N) := ⟨O2, s, X, Y, true, gn, cn, vm, G2.out, ST1.out, ST2.out⟩
              clear hd2 h2'
              go_wp2_with fail
              go_roundw
              case rel => exact ⟨k + 1, by omega, by go_num, HM⟩
              case measure => simp [intOf]; omega
            | false =>
              rw [(ST2.out rfl).recover hN0] at hd2 ⊢
              obtain ⟨O2, h2', _, _⟩ := GA.out.did hd2
              have G2 := Lib.hid h2'
              have hg3 := G2.out.gm.c3
              have HM : Hid (Mid W w2 gb d N) := ⟨O2, s, X, Y, false, gn, cn, vm, G2.out, ST1.out, ST2.out⟩
              clear hd2 h2'
              go_wp2_with fail
              go_roundw
              case rel => exact ⟨k + 1, by omega, by go_num, HM⟩
              case measure => simp [intOf]; omega
          have e1' : (what == 1) = false := by simpa using e1
          by_cases e2 : what = 2
          · subst e2
            clear e0' e1'
            have hBB := GA.out.gm.c3
            cases off with
            | true =>
              have HM : Hid (Mid W (wr.alloc (.cells #[.int .i64 2, .int .i64 m, .slice A1 n1 c1, .slice A2 n2 c2] 45)) gb d N) := ⟨O, s, X, Y, true, gn, cn, vm, GA.out, ST1.out, ST2.out⟩
              go_wp2_with fail
              go_roundw
              case rel => exact ⟨k + 1, by omega, by go_num, HM⟩
              case measure => simp [intOf]; omega
            | false =>
              have HON0 : Hid (OnS N s X) := ST2.out rfl
              go_wp2_with fail
              generalize (wr.alloc (.cells #[.int .i64 2, .int .i64 m, .slice A1 n1 c1, .slice A2 n2 c2] 45)) = w1 at *
              generalize wr.heap.size = pb at *
              clear h0 h1 h2 h3
              have hc0 := GA.out.gm.c0
              have hp1 : w1.cell? ⟨pb, 1, none⟩ = some (.int .i64 m) := cell_of KA.out.1 1
              go_still_tail 6, (by kernel_rfl)
              change wpList _ _ _ _ _ w1.drew
              have GB : Hid (Gm W w1.drew gb d O N s X Y false gn cn vm) := GA.out.below ⟨rfl, rfl, rfl, Nat.le_refl _, fun _ _ => rfl⟩
              clear hc0 hp1 GA KA hBB
              generalize w1.drew = w2 at *
              go_wp2_with fail
              refine (fuseD m GB.out.sit.drv hlo hhi).mono ?_
              rintro e w3 ⟨rfl, hd3⟩
              obtain ⟨O3, h3, _, _⟩ := GB.out.did hd3
              have HM : Hid (Mid W w3 gb d N) := ⟨O3, _, X, Y, false, gn, cn, vm, h3, (fun e => by cases e), fun _ => HON0.out.fuse_ m⟩
              clear hd3 h3
              go_wp2_with fail
              go_roundw
              case rel => exact ⟨k + 1, by omega, by go_num, HM⟩
              case measure => simp [intOf]; omega
          have e2' : (what == 2) = false := by simpa using e2
          by_cases e3 : what = 3
          · subst e3
            clear e0' e1' e2'
            have HBK : Hid (Back N s X (if off then Y else X)) := by
              cases off with
              | true => exact (ST1.out rfl).2
              | false => exact (ST2.out rfl).back
            go_wp2_with fail
            refine (again_any GA.out HBK.out HV.out).mono ?_
            rintro e w2 ⟨rfl, O2, s2, X2, gn2, cn2, vm2, hG2, hon2⟩
            have HM : Hid (Mid W w2 gb d N) := ⟨O2, s2, X2, [], false, gn2, cn2, vm2, hG2, (fun e => by cases e), fun _ => hon2⟩
            clear hG2 hon2
            go_wp2_with fail
            go_roundw
            case rel => exact ⟨k + 1, by omega, by go_num, HM⟩
            case measure => simp [intOf]; omega
          · have e3' : (what == 3) = false := by simpa using e3
            have HM : Hid (Mid W (wr.alloc (.cells #[.int .i64 what, .int .i64 m, .slice A1 n1 c1, .slice A2 n2 c2] 45)) gb d N) := ⟨O, s, X, Y, off, gn, cn, vm, GA.out, ST1.out, ST2.out⟩
            clear e0 e1 e2 e3
            go_wp2_with fail
            go_roundw
            case rel => exact ⟨k + 1, by omega, by go_num, HM⟩
            case measure => simp [intOf]; omega
        · have HBK : Hid (Back N s X (if off then Y else X)) := by
            cases off with
            | true => exact (ST1.out rfl).2
            | false => exact (ST2.out rfl).back
          have hcase : ¬ k < n ∨ (k < n ∧ ¬ k < 30) := by omega
          clear hlt
          rcases hcase with hlt | ⟨hlt, h30⟩
          · go_wp2_with fail
            refine (again_any GM.out HBK.out (zero_step W)).mono ?_
            rintro e w2 ⟨rfl, O2, s2, X2, gn2, cn2, vm2, hG2, hon2⟩
            have HEND := Lib.hid hG2.sit.bel
            clear hG2 hon2
            go_wp2_with fail
            go_ret
            exact ⟨rfl, HEND.out⟩
          · have h30' : decide ((k : Int) < 30) = false := by simp; omega
            go_wp2_with fail
            refine (again_any GM.out HBK.out (zero_step W)).mono ?_
            rintro e w2 ⟨rfl, O2, s2, X2, gn2, cn2, vm2, hG2, hon2⟩
            have HEND := Lib.hid hG2.sit.bel
            clear hG2 hon2
            go_wp2_with fail
            go_ret
            exact ⟨rfl, HEND.out⟩
end Go.Proofs.Ytlhkkelpombbiaa.redoPlays
