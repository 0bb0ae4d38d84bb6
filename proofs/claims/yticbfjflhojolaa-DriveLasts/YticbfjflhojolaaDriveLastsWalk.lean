/- DriveLasts, walked. -/
import Derived.Test.YticbfjflhojolaaAwake
namespace Go.Proofs.Yticbfjflhojolaa.driveLasts
open Go.RowKit
set_option linter.unusedVariables false

theorem set_len (x : UInt8) : (zeros.set 0 x).length = 128 := by rw [List.length_set, zeros_len]
/-- The state behind the restart. -/
def fin (n : Nat) (lx ly : List UInt8) (keep : List Int) : DS :=
  DS.restart ([((n : Int), ly)].foldl (fun s w => s.put1 w.1.toNat w.2) { ([((n : Int), lx)].foldl (fun s w => s.put1 w.1.toNat w.2) (newS 64)) with lasting := lay ([((n : Int), lx)].foldl (fun s w => s.put1 w.1.toNat w.2) (newS 64)).lasting ([((n : Int), lx)].foldl (fun s w => s.put1 w.1.toNat w.2) (newS 64)).since, since := [] }) keep
theorem fin_now (n : Nat) (lx ly : List UInt8) (keep : List Int) (h : n < 64) : (fin n lx ly keep).now[n]? = some (if kept keep 0 then ly else lx) := by
  have h1 : (fin n lx ly keep).now = lay ((List.replicate 64 zeros).set n lx) (keeps keep 0 [(n, ly)]) := rfl
  rw [h1]
  unfold keeps keeps
  split
  · show (((List.replicate 64 zeros).set n lx).set n ly)[n]? = _
    rw [List.getElem?_set, if_pos rfl, if_pos (by rw [List.length_set, List.length_replicate]; exact h)]
  · show ((List.replicate 64 zeros).set n lx)[n]? = _
    rw [List.getElem?_set, if_pos rfl, if_pos (by rw [List.length_replicate]; exact h)]
set_option maxRecDepth 100000 in
set_option maxHeartbeats 4000000 in
theorem walk (W : World) (x a b : UInt8) (A : Option Addr) (n c : Nat) (keep : List Int) (hI : Ints W (fun q => q < W.heap.size) A n c keep) :
    Calls Try.prog 4 #[.int .u8 (x.toNat : Int), .int .u8 (a.toNat : Int), .int .u8 (b.toNat : Int), .slice A n c] W fun e w' => e = .returned (.bool true) ∧ Below W.heap.size W w' := by
  have HI := Lib.hid hI
  have hlim := hI.lim
  have hcap := hI.cap
  unfold maxLen at hlim
  have hx0 : (0 : Int) ≤ (x.toNat : Int) := Int.natCast_nonneg _
  have hx1 : (x.toNat : Int) ≤ 255 := by have := x.toNat_lt; omega
  clear hI
  go_enter Try.func4, Try.ntmps4
  go_wp2_with fail
  refine (new_any 64 _ (by omega) (by omega)).mono ?_
  rintro e w1 ⟨d, O, rfl, hdrv, hO, hb⟩
  have S1 : Hid (Sit W w1 d O 64 (newS 64)) := ⟨hdrv, hO, hb⟩
  clear hdrv hO hb
  go_wp2_with fail
  rw [show ((x.toNat : Int) % 64) = ((x.toNat % 64 : Nat) : Int) by omega]
  have hm64 : x.toNat % 64 < 64 := Nat.mod_lt _ (by omega)
  generalize x.toNat % 64 = m at *
  have hm := make128_all
  go_region_held3 (fun _ => True) (trivial) (fail)
  all_goals
    clear hm
    rename_i hHeld
    clear hHeld
    obtain ⟨m1, m2, m3⟩ := made_two w1
    have S2 := Lib.hid (S1.out.below m3)
    have M1 := Lib.hid m1
    have M2 := Lib.hid m2
    have hN1 : w1.heap.size ∉ O := fun e => by have := S1.out.drv.lt _ e; omega
    have hN2 : w1.heap.size + 1 ∉ O := fun e => by have := S1.out.drv.lt _ e; omega
    have HN1 := Lib.hid hN1
    have HN2 := Lib.hid hN2
    have hw1 := S1.out.bel.size
    clear m1 m2 m3 S1 hN1 hN2
    generalize ((w1.alloc (.cells (bc zeros).toArray 5)).alloc (.cells (bc zeros).toArray 5)).drew = w2 at *
  obtain ⟨bX, hbX⟩ : ∃ q, q = w1.heap.size := ⟨_, rfl⟩
  obtain ⟨bY, hbY⟩ : ∃ q, q = w1.heap.size + 1 := ⟨_, rfl⟩
  have hne : bX ≠ bY := by omega
  have hwX : W.heap.size ≤ bX := by omega
  have hwY : W.heap.size ≤ bY := by omega
  have HNX : Hid (bX ∉ O) := by rw [hbX]; exact HN1
  have HNY : Hid (bY ∉ O) := by rw [hbY]; exact HN2
  have MX : Hid (Own w2 bX zeros) := by rw [hbX]; exact M1
  have MY : Hid (Own w2 bY zeros) := by rw [hbY]; exact M2
  rw [← hbY, ← hbX]
  clear hbX hbY HN1 HN2 M1 M2 hw1
  rotate_left
  obtain ⟨bX, hbX⟩ : ∃ q, q = w1.heap.size + 1 := ⟨_, rfl⟩
  obtain ⟨bY, hbY⟩ : ∃ q, q = w1.heap.size := ⟨_, rfl⟩
  have hne : bX ≠ bY := by omega
  have hwX : W.heap.size ≤ bX := by omega
  have hwY : W.heap.size ≤ bY := by omega
  have HNX : Hid (bX ∉ O) := by rw [hbX]; exact HN2
  have HNY : Hid (bY ∉ O) := by rw [hbY]; exact HN1
  have MX : Hid (Own w2 bX zeros) := by rw [hbX]; exact M2
  have MY : Hid (Own w2 bY zeros) := by rw [hbY]; exact M1
  rw [← hbX, ← hbY]
  clear hbX hbY HN1 HN2 M1 M2 hw1
  all_goals
    have hcx := MX.out.cell (j := 0) (x := 0) (by rw [zeros, List.getElem?_replicate, if_pos (by omega)])
    have hfx := MX.out.frozen 0
    have hcy := MY.out.cell (j := 0) (x := 0) (by rw [zeros, List.getElem?_replicate, if_pos (by omega)])
    have hfy := MY.out.frozen 0
    have hne' : bY ≠ bX := fun e => hne e.symm
    go_wp2_with fail
    have OX : Hid (Own ((w2.setCell ⟨bX, 0, none⟩ (.int .u8 (a.toNat : Int))).setCell ⟨bY, 0, none⟩ (.int .u8 (b.toNat : Int))) bX (zeros.set 0 a)) :=
      (MX.out.set a (by rw [zeros_len]; omega)).keep (Below.heap_setCell _ _ _ _ hne)
    have OY : Hid (Own ((w2.setCell ⟨bX, 0, none⟩ (.int .u8 (a.toNat : Int))).setCell ⟨bY, 0, none⟩ (.int .u8 (b.toNat : Int))) bY (zeros.set 0 b)) :=
      (MY.out.keep (Below.heap_setCell _ _ _ _ hne')).set b (by rw [zeros_len]; omega)
    have S3 : Hid (Sit W ((w2.setCell ⟨bX, 0, none⟩ (.int .u8 (a.toNat : Int))).setCell ⟨bY, 0, none⟩ (.int .u8 (b.toNat : Int))) d O 64 (newS 64)) := (S2.out.set _ HNX.out hwX).set _ HNY.out hwY
    clear hcx hfx hcy hfy MX MY S2
    generalize ((w2.setCell ⟨bX, 0, none⟩ (.int .u8 (a.toNat : Int))).setCell ⟨bY, 0, none⟩ (.int .u8 (b.toNat : Int))) = w3 at *
    refine (awake_any _).mono ?_
    rintro e w4 ⟨rfl, hb4⟩
    have S4 := Lib.hid (S3.out.below hb4)
    have OX4 := Lib.hid (OX.out.below hb4)
    have OY4 := Lib.hid (OY.out.below hb4)
    clear hb4 S3 OX OY
    go_wp2_with fail
    refine (putS1 m S4.out OX4.out HNX.out (set_len a) (by simp [newS])).mono ?_
    rw [put_free rfl rfl (fit_one (by omega) (by omega) (set_len a))]
    rintro e w5 ⟨rfl, O5, hs5, hc5, hn5⟩
    have S5 := Lib.hid hs5
    have OX5 := Lib.hid (OX4.out.chg hc5 HNX.out)
    have OY5 := Lib.hid (OY4.out.chg hc5 HNY.out)
    have HNX5 := Lib.hid (not_after hn5 HNX.out OX4.out.lt)
    have HNY5 := Lib.hid (not_after hn5 HNY.out OY4.out.lt)
    clear hs5 hc5 hn5 S4 OX4 OY4 HNX HNY
    go_wp2_with fail
    refine (flushS S5.out).mono ?_
    rw [flush_free rfl rfl]
    rintro e w6 ⟨rfl, O6, hs6, hc6, hn6⟩
    have S6 := Lib.hid hs6
    have OX6 := Lib.hid (OX5.out.chg hc6 HNX5.out)
    have OY6 := Lib.hid (OY5.out.chg hc6 HNY5.out)
    have HNX6 := Lib.hid (not_after hn6 HNX5.out OX5.out.lt)
    have HNY6 := Lib.hid (not_after hn6 HNY5.out OY5.out.lt)
    clear hs6 hc6 hn6 S5 OX5 OY5 HNX5 HNY5
    go_wp2_with fail
    refine (putS1 m S6.out OY6.out HNY6.out (set_len b) (by simp)).mono ?_
    rw [put_free rfl rfl (fit_one (by omega) (by omega) (set_len b))]
    rintro e w7 ⟨rfl, O7, hs7, hc7, hn7⟩
    have S7 := Lib.hid hs7
    have OX7 := Lib.hid (OX6.out.chg hc7 HNX6.out)
    have OY7 := Lib.hid (OY6.out.chg hc7 HNY6.out)
    have HNX7 := Lib.hid (not_after hn7 HNX6.out OX6.out.lt)
    have HNY7 := Lib.hid (not_after hn7 HNY6.out OY6.out.lt)
    clear hs7 hc7 hn7 S6 OX6 OY6 HNX6 HNY6
    go_wp2_with fail
    refine (restartS S7.out (HI.out.keep fun q hq => S7.out.bel.block q hq) (fun q hq => ⟨Nat.lt_of_lt_of_le hq S7.out.bel.size, fun e => by have := S7.out.fresh q e; omega⟩)).mono ?_
    rintro e w8 ⟨rfl, O8, hs8, hc8, hn8⟩
    have S8 : Hid (Sit W w8 d O8 64 (fin m (zeros.set 0 a) (zeros.set 0 b) keep)) := hs8
    have OX8 := Lib.hid (OX7.out.chg hc8 HNX7.out)
    have OY8 := Lib.hid (OY7.out.chg hc8 HNY7.out)
    clear hs8 hc8 hn8 S7 OX7 OY7 HNX7 HNY7
    go_wp2_with fail
    refine (getS m S8.out rfl (fin_now m _ _ keep hm64)).mono ?_
    rintro e w9 ⟨bZ, rfl, hs9, ho9, hn9, hz9, hb9⟩
    have S9 := Lib.hid hs9
    have OX9 := Lib.hid (OX8.out.below hb9)
    have OY9 := Lib.hid (OY8.out.below hb9)
    have OZ9 := Lib.hid ho9
    clear hs9 ho9 hn9 hz9 hb9 S8 OX8 OY8
    have hvX := OX9.out.str (set_len a)
    have hvY := OY9.out.str (set_len b)
    have HEND := Lib.hid S9.out.bel
    by_cases h0 : 0 < n
    · obtain ⟨bk, ok, rfl, hbk, hck⟩ := HI.out.at_ h0
      have hck0 := hck 0 h0
      have hck' : w9.cell? ⟨bk, ok, none⟩ = some (.int .i64 (keep[0]?.getD 0)) := (S9.out.bel.cell (p := ⟨bk, ok, none⟩) hbk).trans hck0
      clear hck hck0
      have hKP : kept keep 0 = !((keep[0]?.getD 0) == 0) := rfl
      have hn' : (0 : Int) < (n : Int) := by omega
      generalize keep[0]?.getD 0 = y at *
      by_cases hy : y = 0
      · subst hy
        have hvZ := OZ9.out.str (by rw [hKP]; exact set_len a)
        rw [hKP] at hvZ
        have hvZ : (convert 41 9 (.slice (some ⟨bZ, 0, none⟩) 128 128)).run Try.prog w9 = .ok (.string ⟨(zeros.set 0 a).toArray⟩) w9 := hvZ
        clear hKP S9 OX9 OY9 OZ9
        generalize zeros.set 0 a = lx at *
        generalize zeros.set 0 b = ly at *
        go_wp2_with fail
        go_ret
        exact ⟨rfl, HEND.out⟩
      · have hy1 : (y != 0) = true := by simp [hy]
        have hy2 : (y == 0) = false := by simp [hy]
        rw [hy2] at hKP
        have hvZ := OZ9.out.str (by rw [hKP]; exact set_len b)
        rw [hKP] at hvZ
        have hvZ : (convert 41 9 (.slice (some ⟨bZ, 0, none⟩) 128 128)).run Try.prog w9 = .ok (.string ⟨(zeros.set 0 b).toArray⟩) w9 := hvZ
        clear hKP S9 OX9 OY9 OZ9
        generalize zeros.set 0 a = lx at *
        generalize zeros.set 0 b = ly at *
        go_wp2_with fail
        go_ret
        exact ⟨rfl, HEND.out⟩
    · have hn' : decide ((0 : Int) < (n : Int)) = false := by simp; omega
      have hn'' : decide (0 < n) = false := by simpa using h0
      have hKP : kept keep 0 = false := by unfold kept; rw [List.getElem?_eq_none (by rw [HI.out.len]; omega)]; rfl
      have hvZ := OZ9.out.str (by rw [hKP]; exact set_len a)
      rw [hKP] at hvZ
      have hvZ : (convert 41 9 (.slice (some ⟨bZ, 0, none⟩) 128 128)).run Try.prog w9 = .ok (.string ⟨(zeros.set 0 a).toArray⟩) w9 := hvZ
      clear hKP S9 OX9 OY9 OZ9
      generalize zeros.set 0 a = lx at *
      generalize zeros.set 0 b = ly at *
      go_wp2_with fail
      go_ret
      exact ⟨rfl, HEND.out⟩
end Go.Proofs.Yticbfjflhojolaa.driveLasts
