/- DrivePlays, walked. -/
import Derived.Test.YticbfjflhojolaaDuo
import Derived.Deep.Cut
namespace Go.Proofs.Yticbfjflhojolaa.drivePlays
open Go.RowKit
set_option linter.unusedVariables false

theorem six (what : Int) (n : Nat) : (what = 0 ∧ n ≤ 40) ∨ (what = 0 ∧ 40 < n) ∨ what = 1 ∨ what = 2 ∨ what = 3 ∨ (what ≠ 0 ∧ what ≠ 1 ∧ what ≠ 2 ∧ what ≠ 3) := by omega
theorem keepRows1 {w w' : World} {b n lo k : Nat} {l : List (List UInt8)} (h : Rows1 w b n lo l k) (hb : Below w.heap.size w w') : Rows1 w' b n lo l k := by
  obtain ⟨C, hC, hCs, hrow⟩ := h
  refine ⟨C, (hb.block b (Array.getElem?_eq_some_iff.1 hC).1).trans hC, hCs, fun j x hj hx => ?_⟩
  obtain ⟨bj, g1, g2, g3, g4⟩ := hrow j x hj hx
  exact ⟨bj, g1, g2, g3, (hb.block bj (Array.getElem?_eq_some_iff.1 g4).1).trans g4⟩
/-- The last loop. -/
def Fin (W : World) (d r N : Nat) (s : DS) (q : RD) (bi : Nat) (w : World) : Prop := ∃ lo O P, Duo W w d r N O P s q ∧ Rows1 w bi N lo s.lasting N
theorem below_drewN' {B : Nat} {a w : World} (h : Below B a w) (n : Nat) : Below B a (w.drewN n) := ⟨h.os, h.tape, h.output, h.size, h.block⟩
set_option maxRecDepth 100000 in
set_option maxHeartbeats 2000000 in
theorem walk_bad (W : World) (n : Int) (A : Option Addr) (m c : Nat) (B : Option Addr) (k e : Nat) (h : n < 64 ∨ 1024 < n) :
    Calls Try.prog 3 #[.int .i64 n, .slice A m c, .slice B k e] W fun e w' => e = .returned (.bool true) ∧ Below W.heap.size W w' := by
  have HH := Lib.hid h
  clear h
  go_enter Try.func3, Try.ntmps3
  go_wp2_with fail
  refine (new_bad n _ HH.out).mono ?_
  rintro e w' ⟨rfl, rfl⟩
  go_wp2_with fail
  refine (rnew_bad n _ HH.out).mono ?_
  rintro e w' ⟨rfl, rfl⟩
  go_wp2_with fail
  refine (awake_any _).mono ?_
  rintro e w1 ⟨rfl, hb⟩
  have HB := Lib.hid hb
  clear hb
  go_wp2_with fail
  go_ret
  exact ⟨rfl, HB.out⟩
set_option maxRecDepth 100000 in
set_option maxHeartbeats 8000000 in
theorem walk_good (W : World) (N : Nat) (A : Option Addr) (m c : Nat) (B : Option Addr) (p e : Nat) (l : List SStep) (look : List Int) (h0 : 64 ≤ N) (h1 : N ≤ 1024) (hS : Stps W (fun b => b < W.heap.size) A m c l) (hL : Ints W (fun b => b < W.heap.size) B p e look) :
    Calls Try.prog 3 #[.int .i64 (N : Int), .slice A m c, .slice B p e] W fun e w' => e = .returned (.bool true) ∧ Below W.heap.size W w' := by
  have HS := Lib.hid hS
  have HL := Lib.hid hL
  obtain ⟨hlim, hcap⟩ := And.intro hS.lim hS.cap
  obtain ⟨hlim2, hcap2⟩ := And.intro hL.lim hL.cap
  unfold maxLen at hlim hlim2
  clear hS hL
  go_enter Try.func3, Try.ntmps3
  go_wp2_with fail
  refine (new_any N _ h0 h1).mono ?_
  rintro e w1 ⟨d, O, rfl, hd, hO, hb1⟩
  have HD := Lib.hid hd
  have HO := Lib.hid hO
  have HB1 := Lib.hid hb1
  clear hd hO hb1
  go_wp2_with fail
  refine (rnew_any N _ h0 h1).mono ?_
  rintro e w2 ⟨r, P, rfl, hr, hP, hb2⟩
  have HB2 : Hid (Both W d r N 0 w2) := by
    have s1 := HB1.out.size
    refine ⟨O, P, newS N, newR, ⟨HD.out.keep fun q hq => hb2.block q (HD.out.lt q hq), hr, fun q h1 h2 => ?_, HO.out, fun q hq => ?_, HB1.out.trans (hb2.mono s1)⟩, Sim.new N, Nat.le_refl _⟩
    · have := HD.out.lt q h1; have := hP q h2; omega
    · have := hP q hq; omega
  clear hr hP hb2 HD HO HB1
  go_wp2_with fail
  go_loopw [11] (fun i wr => ∃ k : Nat, k ≤ m ∧ k ≤ 40 ∧ i = .int .i64 (k : Int) ∧ Hid (Both W d r N (40 * k) wr)) (fun i _ => m - (intOf i).toNat)
  case atStart => exact ⟨0, Nat.zero_le _, by omega, rfl, HB2⟩
  case round =>
    clear HB2
    obtain ⟨k, hk, hk40, rfl, HR⟩ := hrel
    by_cases hlt : k < m ∧ k < 40
    · obtain ⟨hkm, hk40'⟩ := hlt
      have t1 : decide ((k : Int) < (m : Int)) = true := by simp; omega
      have t1' : decide ((k : Int) < 40) = true := by simp; omega
      obtain ⟨x, hx⟩ : ∃ x, l[k]? = some x := ⟨_, List.getElem?_eq_getElem (by rw [HS.out.len]; exact hkm)⟩
      obtain ⟨ba, oa, hAe, hba, hat⟩ := HS.out.get hx
      subst hAe
      clear hx
      obtain ⟨A1, n1, c1, A2, n2, c2, g0, g1, g2, g3, gv⟩ := hat
      have hbel := HR.out.bel
      have k0 := (hbel.cell (p := ⟨ba, oa + k * 4, none⟩) hba).trans g0
      have k1 := (hbel.cell (p := ⟨ba, oa + k * 4 + 1, none⟩) hba).trans g1
      have k2 := (hbel.cell (p := ⟨ba, oa + k * 4 + 2, none⟩) hba).trans g2
      have k3 := (hbel.cell (p := ⟨ba, oa + k * 4 + 3, none⟩) hba).trans g3
      obtain ⟨what, n, list, keep⟩ := x
      simp only at k0 k1 gv
      have HGV := Lib.hid gv
      have i0 : (0 : Int) ≤ (k : Int) := Int.natCast_nonneg _
      clear g0 g1 g2 g3 gv hbel
      obtain ⟨Or, Pr, s, q, hduo, hsim, hlen⟩ := HR.out
      have HQO : Hid (wr.heap.size ∉ Or) := fun e => by have := hduo.drv.lt _ e; omega
      have HQP : Hid (wr.heap.size ∉ Pr) := fun e => by have := hduo.ref.lt _ e; omega
      have HDU : Hid (Duo W (wr.alloc (.cells #[.int .i64 what, .int .i64 n, .slice A1 n1 c1, .slice A2 n2 c2] 34)) d r N Or Pr s q) := hduo.below ((Below.refl _ _).alloc (Nat.le_refl _) _)
      have HNEW : Hid ((wr.alloc (.cells #[.int .i64 what, .int .i64 n, .slice A1 n1 c1, .slice A2 n2 c2] 34)).heap[wr.heap.size]? = some (.cells #[.int .i64 what, .int .i64 n, .slice A1 n1 c1, .slice A2 n2 c2] 34 (0, 0))) := heap_alloc_new _ _
      have HSIM := Lib.hid hsim
      have hql : q.list.length ≤ 40 * k := hlen
      have hsl : s.since.length ≤ 40 * k := Nat.le_trans hsim.len hlen
      have HOK := Lib.hid hduo.drv.down_
      clear hduo hsim hlen HR
      rcases six what n1 with ⟨e0, hn40⟩ | ⟨e0, hn40⟩ | e1 | e2 | e3 | ⟨e0, e1, e2, e3⟩
      focus
        subst e0
        have hne : ((s.put N list).1 != (q.put N list).1) = false := by rw [(HSIM.out.put HOK.out list).1]; simp
        have tg : decide ((n1 : Int) ≤ 40) = true := by simp; omega
        have tg' : decide (n1 ≤ 40) = true := by simpa using hn40
        go_wp2_with fail
        have hcv : (wr.alloc (.cells #[.int .i64 0, .int .i64 n, .slice A1 n1 c1, .slice A2 n2 c2] 34)).cell? ⟨wr.heap.size, 2, none⟩ = some (.slice A1 n1 c1) := cell_of HNEW.out 2
        generalize (wr.alloc (.cells #[.int .i64 0, .int .i64 n, .slice A1 n1 c1, .slice A2 n2 c2] 34)) = w3 at *
        generalize wr.heap.size = hv at *
        have HDU' : Hid (Duo W w3.drew d r N Or Pr s q) := HDU.out.below (Below.refl _ _).drew
        have HNEW' : Hid (w3.drew.heap[hv]? = some (.cells #[.int .i64 0, .int .i64 n, .slice A1 n1 c1, .slice A2 n2 c2] 34 (0, 0))) := HNEW.out
        go_region_held3 (fun w' => w'.cell? ⟨hv, 2, none⟩ = some (.slice A1 n1 c1)) ((first | exact hcv | (exact cell_of HV4.out 2) | (exact cell_of HV5.out 2))) (first | (go_at_call 12; (with_reducible refine (putD HDU'.out HGV.out.wrs (by omega) hn40 HNEW'.out HQO.out HQP.out).mono ?_); rintro e w4 ⟨rfl, hh4⟩; have HH4 := Lib.hid hh4; clear hh4; have HV4 : Hid (w4.heap[hv]? = some (.cells #[.int .i64 0, .int .i64 n, .slice A1 n1 c1, .slice A2 n2 c2] 34 (0, 0))) := half_at HH4.out) | (go_at_call 13; (with_reducible refine (putR HH4.out HGV.out.wrs (by omega) hn40).mono ?_); rintro e w5 ⟨rfl, hf5, hv5⟩; have HF5 := Lib.hid hf5; have HV5 : Hid (w5.heap[hv]? = some (.cells #[.int .i64 0, .int .i64 n, .slice A1 n1 c1, .slice A2 n2 c2] 34 (0, 0))) := hv5; clear hf5 hv5))
        rename_i hHeld
        obtain ⟨O5, P5, hf5⟩ := HF5.out
        have HB3 : Hid (Both W d r N (40 * (k + 1)) w5) := ⟨O5, P5, _, _, hf5, (HSIM.out.put HOK.out list).2, by have h7 := rput_len q N list; have h8 : list.length = n1 := HGV.out.wrs.len; omega⟩
        clear hHeld hf5 HF5 HV5 HDU HDU' HNEW HNEW' HQO HQP HSIM HOK hcv hne
        go_wp2_with fail
      rotate_left
      focus
        subst e0
        have tg : decide ((n1 : Int) ≤ 40) = false := by simp; omega
        have tg' : decide (n1 ≤ 40) = false := by simp; omega
        go_wp2_with fail
        have hcv : (wr.alloc (.cells #[.int .i64 0, .int .i64 n, .slice A1 n1 c1, .slice A2 n2 c2] 34)).cell? ⟨wr.heap.size, 2, none⟩ = some (.slice A1 n1 c1) := cell_of HNEW.out 2
        generalize (wr.alloc (.cells #[.int .i64 0, .int .i64 n, .slice A1 n1 c1, .slice A2 n2 c2] 34)) = w3 at *
        generalize wr.heap.size = hv at *
        go_quiet (fail)
        have HB3 : Hid (∀ j, Both W d r N (40 * (k + 1)) (w3.drewN j)) := fun j => ⟨Or, Pr, s, q, HDU.out.below (below_drewN' (Below.refl _ _) j), HSIM.out, by omega⟩
        have HB3 := Lib.hid (HB3.out nq)
        clear HDU HNEW HQO HQP HSIM HOK hcv
        go_wp2_with fail
      rotate_left
      focus
        subst e1
        have hne : (s.flush.1 != q.flush.1) = false := by rw [(HSIM.out.flush HOK.out).1]; simp
        go_wp2_with fail
        refine (flushDD HDU.out HNEW.out HQO.out HQP.out).mono ?_
        rintro e w4 ⟨rfl, hh4⟩
        have HH4 := Lib.hid hh4
        clear hh4
        go_wp2_with fail
        refine (flushR HH4.out).mono ?_
        rintro e w5 ⟨rfl, O5, P5, hf5⟩
        have HB3 : Hid (Both W d r N (40 * (k + 1)) w5) := ⟨O5, P5, _, _, hf5, (HSIM.out.flush HOK.out).2, by have h7 := rflush_len q; omega⟩
        clear hf5 HH4 HDU HNEW HQO HQP HSIM HOK
        go_wp2_with fail
      rotate_left
      focus
        subst e2
        go_wp2_with fail
        refine (fuseDD n HDU.out HGV.out.lo HGV.out.hi HNEW.out HQO.out HQP.out).mono ?_
        rintro e w4 ⟨rfl, hh4⟩
        have HH4 := Lib.hid hh4
        clear hh4
        have hcw : w4.cell? ⟨wr.heap.size, 1, none⟩ = some (.int .i64 n) := cell_of (half_at HH4.out) 1
        go_wp2_with fail
        refine (fuseR n HH4.out HGV.out.hi).mono ?_
        rintro e w5 ⟨rfl, O5, P5, hf5⟩
        have HB3 : Hid (Both W d r N (40 * (k + 1)) w5) := ⟨O5, P5, _, _, hf5, HSIM.out.fuse' n, by show q.list.length ≤ _; omega⟩
        clear hf5 HH4 HDU HNEW HQO HQP HSIM HOK
        go_wp2_with fail
      rotate_left
      focus
        subst e3
        go_wp2_with fail
        refine (restartDD HDU.out HGV.out.ints HNEW.out HQO.out HQP.out).mono ?_
        rintro e w4 ⟨rfl, hh4⟩
        have HH4 := Lib.hid hh4
        clear hh4
        have hcw : w4.cell? ⟨wr.heap.size, 3, none⟩ = some (.slice A2 n2 c2) := cell_of (half_at HH4.out) 3
        go_wp2_with fail
        refine (restartR HH4.out HGV.out.ints (by omega)).mono ?_
        rintro e w5 ⟨rfl, O5, P5, hf5⟩
        have HB3 : Hid (Both W d r N (40 * (k + 1)) w5) := ⟨O5, P5, _, _, hf5, HSIM.out.restart keep, by have h7 := stay_len keep q.list 0; show (stay keep 0 q.list).length ≤ _; omega⟩
        clear hf5 HH4 HDU HNEW HQO HQP HSIM HOK
        go_wp2_with fail
      rotate_left
      focus
        have t0 : (what == 0) = false := by simpa using e0
        have t1 : (what == 1) = false := by simpa using e1
        have t2 : (what == 2) = false := by simpa using e2
        have t3 : (what == 3) = false := by simpa using e3
        have HB3 : Hid (Both W d r N (40 * (k + 1)) (wr.alloc (.cells #[.int .i64 what, .int .i64 n, .slice A1 n1 c1, .slice A2 n2 c2] 34))) := ⟨Or, Pr, s, q, HDU.out, HSIM.out, by omega⟩
        clear HDU HNEW HQO HQP HSIM HOK
        go_wp2_with fail
      all_goals
        clear hql hsl HGV hba HS
        go_loopw [13] (fun i wr => ∃ j : Nat, j ≤ p ∧ j ≤ 8 ∧ i = .int .i64 (j : Int) ∧ Hid (Both W d r N (40 * (k + 1)) wr)) (fun i _ => p - (intOf i).toNat)
        case atStart => exact ⟨0, Nat.zero_le _, by omega, rfl, HB3⟩
        case round =>
          clear HB3
          obtain ⟨j, hj, hj8, rfl, HR⟩ := hrel
          by_cases hlt : j < p ∧ j < 8
          · obtain ⟨hjp, hj8'⟩ := hlt
            have v1 : decide ((j : Int) < (p : Int)) = true := by simp; omega
            have v2 : decide ((j : Int) < 8) = true := by simp; omega
            obtain ⟨bk, ok, hBe, hbk, hck⟩ := HL.out.at_ (by omega)
            subst hBe
            have hck0 := hck j hjp
            obtain ⟨O2, P2, s2, q2, hduo, hsim, hlen⟩ := HR.out
            have kw := (hduo.bel.cell (p := ⟨bk, ok + j, none⟩) hbk).trans hck0
            obtain ⟨y, hy⟩ : ∃ y, look[j]?.getD 0 = y := ⟨_, rfl⟩
            rw [hy] at kw hck0
            have HCK := Lib.hid hck0
            have HDU2 := Lib.hid hduo
            have HSI2 := Lib.hid hsim
            have HLE2 := Lib.hid hlen
            have j0 : (0 : Int) ≤ (j : Int) := Int.natCast_nonneg _
            clear hck hck0 hy hduo hsim hlen HR
            go_wp2_with fail
            refine (getD y HDU2.out HSI2.out).mono ?_
            rintro e w6 ⟨A3, n3, c3, rfl, hga, hduo6⟩
            have HGA := Lib.hid hga
            have HDU6 := Lib.hid hduo6
            have kw6 := (hduo6.bel.cell (p := ⟨bk, ok + j, none⟩) hbk).trans HCK.out
            clear hga hduo6 kw HDU2
            go_wp2_with fail
            refine (getR y HDU6.out).mono ?_
            rintro e w7 ⟨rfl, hduo7, hb7⟩
            have hcv := HGA.out.2 w7 hb7
            have HBB : Hid (Both W d r N (40 * (k + 1)) w7) := ⟨O2, P2, s2, q2, hduo7, HSI2.out, HLE2.out⟩
            clear hduo7 hb7 HGA HDU6 kw6 HSI2 HLE2 HCK
            generalize (rget q2 N y).1 = x1 at *
            generalize (rget q2 N y).2 = x2 at *
            go_wp2_with fail
            go_roundw
            case rel => exact ⟨j + 1, by omega, by omega, by go_num, HBB⟩
            case measure => simp [intOf]; omega
          · rcases Nat.lt_or_ge j p with hjp | hjp
            · have hj' : j = 8 := by omega
              subst hj'
              have v1 : decide (((8 : Nat) : Int) < (p : Int)) = true := by simp; omega
              go_wp2_with fail
              go_roundw
              case rel => exact ⟨k + 1, by omega, by omega, by go_num, HR⟩
              case measure => simp [intOf]; omega
            · have hj' : j = p := by omega
              subst hj'
              have v1 : decide ((j : Int) < (j : Int)) = false := by simp
              go_wp2_with fail
              go_roundw
              case rel => exact ⟨k + 1, by omega, by omega, by go_num, HR⟩
              case measure => simp [intOf]; omega
    · obtain ⟨Or, Pr, s, q, hduo, hsim, hlen⟩ := HR.out
      have HDU := Lib.hid hduo
      have HSIM := Lib.hid hsim
      clear hduo hsim hlen HR
      rcases Nat.lt_or_ge k m with hkm | hkm
      have hk' : k = 40 := by omega
      subst hk'
      have t1 : decide (((40 : Nat) : Int) < (m : Int)) = true := by simp; omega
      go_wp2_with fail
      rotate_left
      have hk' : k = m := by omega
      subst hk'
      have t1 : decide ((k : Int) < (k : Int)) = false := by simp
      go_wp2_with fail
      all_goals
        refine (image_any HDU.out.drv).mono ?_
        rintro e w8 ⟨bi, rfl, hz8, hr8, hb8⟩
        have HD8 := Lib.hid (HDU.out.below hb8)
        have HI8 := Lib.hid hr8
        clear hz8 hr8 hb8 HDU
        go_wp2_with fail
        refine (awake_any _).mono ?_
        rintro e w9 ⟨rfl, hb9⟩
        have HD9 := Lib.hid (HD8.out.below hb9)
        have HI9 := Lib.hid (keepRows1 HI8.out hb9)
        clear hb9 HD8 HI8
        go_wp2_with fail
        refine (sectorsD HD9.out.drv).mono ?_
        rintro e w10 ⟨rfl, rfl⟩
        have HF : Hid (Fin W d r N s q bi w9) := ⟨_, _, _, HD9.out, HI9.out⟩
        clear HD9 HI9
        go_wp2_with fail
        go_loopw [19] (fun i wr => ∃ j : Nat, j ≤ N ∧ i = .int .i64 (j : Int) ∧ Hid (Fin W d r N s q bi wr)) (fun i _ => N - (intOf i).toNat)
        case atStart => exact ⟨0, Nat.zero_le _, rfl, HF⟩
        case round =>
          clear HF
          obtain ⟨j, hj, rfl, HF⟩ := hrel
          by_cases hjN : j < N
          · obtain ⟨lo, O2, P2, hduo, hrows⟩ := HF.out
            have hx := HSIM.out.las_find hjN
            have hl : (q.find (j : Int) true).length = 128 := hduo.drv.secs j _ hx
            obtain ⟨C, hC, hCs, hrow⟩ := hrows
            obtain ⟨u, g1, g2, g3, g4⟩ := hrow j _ hjN hx
            have ou : Own wr u (q.find (j : Int) true) := ⟨67, g4⟩
            have hcu : wr.cell? ⟨bi, j, none⟩ = some (.slice (some ⟨u, 0, none⟩) 128 128) := by rw [cell_of hC]; exact g1
            have hbi : bi < wr.heap.size := (Array.getElem?_eq_some_iff.1 hC).1
            have HSA : Hid (∀ w', Below wr.heap.size wr w' → w'.cell? ⟨bi, j, none⟩ = some (.slice (some ⟨u, 0, none⟩) 128 128) ∧ (convert 41 9 (.slice (some ⟨u, 0, none⟩) 128 128)).run Try.prog w' = .ok (.string ⟨(q.find (j : Int) true).toArray⟩) w') := fun w' hb => ⟨(hb.cell (p := ⟨bi, j, none⟩) hbi).trans hcu, (ou.below hb).str hl⟩
            have HFA : Hid (∀ w', Below wr.heap.size wr w' → Fin W d r N s q bi w') := fun w' hb => ⟨lo, O2, P2, hduo.below hb, keepRows1 ⟨C, hC, hCs, hrow⟩ hb⟩
            have HREF : Hid (RDrv wr.drew r P2 N q) := hduo.ref.keep fun _ _ => rfl
            have HS0 := Lib.hid (HSA.out wr.drew (Below.refl _ _).drew)
            have i0 : (0 : Int) ≤ (j : Int) := Int.natCast_nonneg _
            have i1 : (j : Int) < (N : Int) := by omega
            clear hduo hx hl hC hCs hrow g1 g2 g3 g4 ou hcu hbi HF
            go_wp2_with fail
            go_region_held3 (fun w' => w'.cell? ⟨bi, j, none⟩ = some (.slice (some ⟨u, 0, none⟩) 128 128) ∧ (convert 41 9 (.slice (some ⟨u, 0, none⟩) 128 128)).run Try.prog w' = .ok (.string ⟨(q.find (j : Int) true).toArray⟩) w') ((first | exact HS0.out | exact HS1.out)) (first | (go_at_call 24; (with_reducible refine (sure_any (j : Int) HREF.out).mono ?_); rintro e w6 ⟨rfl, hb6⟩; have HB6 : Hid (Below wr.heap.size wr w6) := ((Below.refl _ _).drew).trans hb6; have HS1 := Lib.hid (HSA.out w6 HB6.out); clear hb6))
            have HFN := Lib.hid (HFA.out w6 HB6.out)
            clear HSA HFA HREF HS0 HB6
            go_wp2_with fail
            go_roundw
            case rel => exact ⟨j + 1, by omega, by go_num, HFN⟩
            case measure => simp [intOf]; omega
          · obtain rfl : j = N := by omega
            obtain ⟨lo, O2, P2, hduo, hrows⟩ := HF.out
            have HEND := Lib.hid hduo.bel
            clear hduo hrows HF
            go_wp2_with fail
            go_ret
            exact ⟨rfl, HEND.out⟩
theorem walk (W : World) (n : Int) (A : Option Addr) (m c : Nat) (l : List SStep) (hS : Stps W (fun b => b < W.heap.size) A m c l) (B : Option Addr) (p e : Nat) (look : List Int) (hL : Ints W (fun b => b < W.heap.size) B p e look) :
    Calls Try.prog 3 #[.int .i64 n, .slice A m c, .slice B p e] W fun e w' => e = .returned (.bool true) ∧ Below W.heap.size W w' := by
  by_cases h : n < 64 ∨ 1024 < n
  · exact walk_bad W n A m c B p e h
  · obtain ⟨N, rfl⟩ := Int.eq_ofNat_of_zero_le (a := n) (by omega)
    exact walk_good W N A m c B p e l look (by omega) (by omega) hS hL
end Go.Proofs.Yticbfjflhojolaa.drivePlays
