/- RedoTwice, walked. -/
import Derived.Test.YtlhkkelpombbiaaBegin
import Derived.Test.YtlhkkelpombbiaaRefs6
import Derived.Deep.RegionHeld3
namespace Go.Proofs.Ytlhkkelpombbiaa.redoTwice
open Go.RowKit
set_option linter.unusedVariables false

theorem set_len (a : UInt8) : (zeros.set 1 a).length = 128 := by rw [List.length_set, zeros_len]
/-- The same drive, in the same state. -/
def Onq (w0 w : World) (d : Nat) (O : List Nat) (N : Nat) (s : DS) (X : Secs2) (w' : World) : Prop := ∃ O', Ons w0 w' d O' N s X ∧ Chg O w w' ∧ ∀ b ∈ O', b ∈ O ∨ w.heap.size ≤ b
theorem recoverE {w0 w : World} {d N : Nat} {O : List Nat} {s : DS} {X : Secs2} (h : Ons w0 w d O N s X) : Calls Try.prog 18 #[.pointer (some ⟨d, 0, none⟩)] w fun e w' => e = .returned (.int .i64 0) ∧ Onq w0 w d O N s X w' := by
  refine (recover_any h.sit.drv (fun _ => by rw [h.on.since]; simp)).mono ?_
  rintro e w' ⟨rfl, hd⟩
  rw [h.on.recover h.n64] at hd ⊢
  obtain ⟨O', h1, h2, h3⟩ := h.sit.did hd
  exact ⟨rfl, O', ⟨h1, h.on, h.len, h.free⟩, h2, h3⟩
theorem restartO {w0 w : World} {d N n c : Nat} {O : List Nat} {s : DS} {X : Secs2} {M : Nat → Prop} {A : Option Addr} {keep : List Int} (h : Ons w0 w d O N s X) (hI : Ints w M A n c keep) (hM : Free w O M) :
    Calls Try.prog 23 #[.pointer (some ⟨d, 0, none⟩), .slice A n c] w fun e w' => e = .returned (.tuple #[]) ∧ Onw w0 w d O N X w' := by
  refine (restart_any h.sit.drv hI hM).mono ?_
  rintro e w' ⟨rfl, hd⟩
  obtain ⟨O', h1, h2, h3⟩ := h.sit.did hd
  obtain ⟨L, hR, hw, hD⟩ := h.on
  obtain ⟨g1, g2⟩ := hR.again keep
  exact ⟨rfl, O', _, ⟨h1, ⟨L, g1, hw, hD⟩, h.len, g2⟩, h2, h3⟩
theorem Ons.last {w0 w : World} {d N : Nat} {O : List Nat} {s : DS} {X : Secs2} (h : Ons w0 w d O N s X) {i : Nat} (hi : i < N) (hl : ¬ inLog i) : s.lasting[i]? = X[i]? := by
  obtain ⟨L, hR, hw, hD⟩ := h.on
  rw [hR.las]
  exact hD.plain hi hl
theorem two_at {n m : Nat} {x y : List UInt8} (hn : n < 80) (hm : m < 80) (hne : n ≠ m) : (lay (X0 80) (toW [((n : Int), x), ((m : Int), y)]))[n]? = some x ∧ (lay (X0 80) (toW [((n : Int), x), ((m : Int), y)]))[m]? = some y := by
  have e : lay (X0 80) (toW [((n : Int), x), ((m : Int), y)]) = ((X0 80).set n x).set m y := rfl
  have hl : (X0 80).length = 80 := by unfold X0; rw [List.length_set, List.length_replicate]
  rw [e]
  refine ⟨?_, ?_⟩
  · rw [List.getElem?_set_ne (by omega), List.getElem?_set_self (by omega)]
  · rw [List.getElem?_set_self (by rw [List.length_set]; omega)]
theorem fit_2 {n m : Nat} {x y : List UInt8} (hn : 26 ≤ n ∧ n < 80) (hm : 26 ≤ m ∧ m < 80) (hne : n ≠ m) (hx : x.length = 128) (hy : y.length = 128) : fit 80 [((n : Int), x), ((m : Int), y)] = true := by
  unfold fit
  rw [Bool.and_eq_true, Bool.and_eq_true]
  refine ⟨good_iff.2 ⟨by simp, ?_, ?_⟩, ?_, ?_⟩
  · intro k hk
    simp only [List.map_cons, List.map_nil, List.mem_cons, List.not_mem_nil, or_false] at hk
    rw [okn_iff]
    omega
  · simp
    omega
  · unfold withinL
    simp
    omega
  · unfold wholeL
    simp [hx, hy]
theorem wrs_12 {w : World} {M : Nat → Prop} {A A' : Option Addr} {n c n' c' : Nat} {l l' : List UInt8} (x y : Int) (hb : Bts w M A n c l) (hb' : Bts w M A' n' c' l') (hM : ∀ b, M b → b < w.heap.size) :
    Wrs (w.alloc (.cells #[.int .i64 x, .slice A n c, .int .i64 y, .slice A' n' c'] 56)) (fun q => M q ∨ q = w.heap.size) (some ⟨w.heap.size, 0, none⟩) 2 2 [(x, l), (y, l')] := by
  have hnew : (w.alloc (.cells #[.int .i64 x, .slice A n c, .int .i64 y, .slice A' n' c'] 56)).heap[w.heap.size]? = some (.cells #[.int .i64 x, .slice A n c, .int .i64 y, .slice A' n' c'] 56 (0, 0)) := heap_alloc_new _ _
  refine ⟨rfl, Nat.le_refl _, by unfold maxLen; omega, fun _ => ⟨_, 0, rfl, .inr rfl, fun j z hj => ?_⟩⟩
  match j, hj with
  | 0, hj =>
    simp only [List.getElem?_cons_zero, Option.some.injEq] at hj
    subst hj
    exact ⟨cell_of hnew 0, _, _, _, cell_of hnew 1, (hb.keep fun b hb' => Below.heap_alloc _ _ _ (hM b hb')).more fun b hb' => .inl hb'⟩
  | 1, hj =>
    simp only [List.getElem?_cons_succ, List.getElem?_cons_zero, Option.some.injEq] at hj
    subst hj
    exact ⟨cell_of hnew 2, _, _, _, cell_of hnew 3, (hb'.keep fun b hb' => Below.heap_alloc _ _ _ (hM b hb')).more fun b hb' => .inl hb'⟩
  | j + 2, hj => simp at hj
theorem Own.text {w : World} {b : Nat} {l : List UInt8} (h : Own w b l) (hl : l.length = 128) : (convert 23 9 (.slice (some ⟨b, 0, none⟩) 128 128)).run Try.prog w = .ok (.string (sb l)) w := h.str hl
/-- A sector of an image, as a text. -/
theorem row_at {w wr : World} {g n lo j : Nat} {l : Secs2} {x : List UInt8} (h : Rows1 w g n lo l n) (hb : Below w.heap.size w wr) (hj : j < n) (hx : l[j]? = some x) (hl : x.length = 128) :
    ∃ bj, wr.cell? ⟨g, j, none⟩ = some (.slice (some ⟨bj, 0, none⟩) 128 128) ∧ ∀ W', W'.heap = wr.heap → (convert 23 9 (.slice (some ⟨bj, 0, none⟩) 128 128)).run Try.prog W' = .ok (.string (sb x)) W' := by
  obtain ⟨C, hC, hCs, hrow⟩ := h
  obtain ⟨bj, q1, q2, q3, q4⟩ := hrow j x hj hx
  have hC' : wr.heap[g]? = some (.cells C 23 (0, 0)) := (hb.block g (Array.getElem?_eq_some_iff.1 hC).1).trans hC
  have hq : wr.heap[bj]? = some (.cells (bc x).toArray 80 (0, 0)) := (hb.block bj (Array.getElem?_eq_some_iff.1 q4).1).trans q4
  refine ⟨bj, by rw [cell_of hC']; exact q1, fun W' hW => ?_⟩
  exact Own.str (w := W') ⟨80, by rw [hW]; exact hq⟩ hl
theorem same_not (l : List UInt8) : ((sb l).toList != (sb l).toList) = false := by unfold bne; rw [sb_list]; simp
theorem same_yes (l : List UInt8) : ((sb l).toList == (sb l).toList) = true := by rw [sb_list]; simp
theorem Ons.las128 {w0 w : World} {d N : Nat} {O : List Nat} {s : DS} {X : Secs2} (h : Ons w0 w d O N s X) {i : Nat} (hi : i < N) : ∃ x, s.lasting[i]? = some x ∧ x.length = 128 := h.sit.drv.lsec hi
set_option maxRecDepth 100000 in
set_option maxHeartbeats 4000000 in
theorem walk (W : World) (a b at_ ot : UInt8) :
    Calls Try.prog 6 #[.int .u8 (a.toNat : Int), .int .u8 (b.toNat : Int), .int .u8 (at_.toNat : Int), .int .u8 (ot.toNat : Int)] W fun e w' => e = .returned (.bool true) ∧ Below W.heap.size W w' := by
  have h1 := at_.toNat_lt
  have h2 := ot.toNat_lt
  go_enter Try.func6, Try.ntmps6
  go_wp2_with fail
  refine (begin_any 80 W (by omega) (by omega)).mono ?_
  rintro e w0 ⟨d, O, rfl, hO⟩
  have S0 := Lib.hid hO
  clear hO
  go_wp2_with fail
  refine (awake_any w0).mono ?_
  rintro e w1 ⟨rfl, hb1⟩
  have S1 := Lib.hid (Ons.below S0.out hb1)
  clear hb1 S0
  by_cases he : 26 + (at_.toNat : Int) % 54 = 26 + (ot.toNat : Int) % 54
  · have he' : (26 + (at_.toNat : Int) % 54 == 26 + (ot.toNat : Int) % 54) = true := by simpa using he
    go_wp2_with fail
    go_ret
    exact ⟨rfl, S1.out.sit.bel⟩
  have he' : (26 + (at_.toNat : Int) % 54 == 26 + (ot.toNat : Int) % 54) = false := by simpa using he
  go_wp2_with fail
  rw [show (26 + (at_.toNat : Int) % 54) = ((26 + at_.toNat % 54 : Nat) : Int) by omega, show (26 + (ot.toNat : Int) % 54) = ((26 + ot.toNat % 54 : Nat) : Int) by omega]
  have hp : 26 ≤ 26 + at_.toNat % 54 ∧ 26 + at_.toNat % 54 < 80 := by omega
  have hq : 26 ≤ 26 + ot.toNat % 54 ∧ 26 + ot.toNat % 54 < 80 := by omega
  have hpq : 26 + at_.toNat % 54 ≠ 26 + ot.toNat % 54 := by omega
  generalize 26 + at_.toNat % 54 = p at *
  generalize 26 + ot.toNat % 54 = q at *
  clear h1 h2 he he'
  have hm := make128_all
  go_region_held3 (fun _ => True) (trivial) (fail)
  all_goals
    clear hm
    rename_i hHeld
    clear hHeld
    obtain ⟨m1, m2, m3⟩ := made_two w1
    have S2 := Lib.hid (Ons.below S1.out m3)
    have M1 := Lib.hid m1
    have M2 := Lib.hid m2
    have hN1 : w1.heap.size ∉ O := fun e => by have := S1.out.sit.drv.lt _ e; omega
    have hN2 : w1.heap.size + 1 ∉ O := fun e => by have := S1.out.sit.drv.lt _ e; omega
    have HN1 := Lib.hid hN1
    have HN2 := Lib.hid hN2
    have hw1 := S1.out.sit.bel.size
    clear m1 m2 m3 S1 hN1 hN2
    generalize ((w1.alloc (.cells (bc zeros).toArray 5)).alloc (.cells (bc zeros).toArray 5)).drew = w2 at *
  obtain ⟨bX, hbX⟩ : ∃ q, q = w1.heap.size := ⟨_, rfl⟩
  obtain ⟨bY, hbY⟩ : ∃ q, q = w1.heap.size + 1 := ⟨_, rfl⟩
  have hne : bX ≠ bY := by omega
  have hwX : W.heap.size ≤ bX := by omega
  have hwY : W.heap.size ≤ bY := by omega
  have HNX : Hid (bX ∉ O) := by rw [hbX]; exact HN1
  have HNY : Hid (bY ∉ O) := by rw [hbY]; exact HN2
  have MX : Hid (Own w2 bX zeros) := by rw [hbX]; exact M1
  have MY : Hid (Own w2 bY zeros) := by rw [hbY]; exact M2
  rw [← hbY, ← hbX]
  clear hbX hbY HN1 HN2 M1 M2 hw1
  rotate_left
  obtain ⟨bX, hbX⟩ : ∃ q, q = w1.heap.size + 1 := ⟨_, rfl⟩
  obtain ⟨bY, hbY⟩ : ∃ q, q = w1.heap.size := ⟨_, rfl⟩
  have hne : bX ≠ bY := by omega
  have hwX : W.heap.size ≤ bX := by omega
  have hwY : W.heap.size ≤ bY := by omega
  have HNX : Hid (bX ∉ O) := by rw [hbX]; exact HN2
  have HNY : Hid (bY ∉ O) := by rw [hbY]; exact HN1
  have MX : Hid (Own w2 bX zeros) := by rw [hbX]; exact M2
  have MY : Hid (Own w2 bY zeros) := by rw [hbY]; exact M1
  rw [← hbX, ← hbY]
  clear hbX hbY HN1 HN2 M1 M2 hw1
  all_goals
    have hcx := MX.out.cell (j := 1) (x := 0) (by rw [zeros, List.getElem?_replicate, if_pos (by omega)])
    have hfx := MX.out.frozen 1
    have hcy := MY.out.cell (j := 1) (x := 0) (by rw [zeros, List.getElem?_replicate, if_pos (by omega)])
    have hfy := MY.out.frozen 1
    have hne' : bY ≠ bX := fun e => hne e.symm
    go_wp2_with fail
    have OX : Hid (Own ((w2.setCell ⟨bX, 1, none⟩ (.int .u8 (a.toNat : Int))).setCell ⟨bY, 1, none⟩ (.int .u8 (b.toNat : Int))) bX (zeros.set 1 a)) :=
      (MX.out.set a (by rw [zeros_len]; omega)).keep (Below.heap_setCell _ _ _ _ hne)
    have OY : Hid (Own ((w2.setCell ⟨bX, 1, none⟩ (.int .u8 (a.toNat : Int))).setCell ⟨bY, 1, none⟩ (.int .u8 (b.toNat : Int))) bY (zeros.set 1 b)) :=
      (MY.out.keep (Below.heap_setCell _ _ _ _ hne')).set b (by rw [zeros_len]; omega)
    have S3 : Hid (Ons W ((w2.setCell ⟨bX, 1, none⟩ (.int .u8 (a.toNat : Int))).setCell ⟨bY, 1, none⟩ (.int .u8 (b.toNat : Int))) d O 80 (begS 80) (X0 80)) := ⟨(S2.out.sit.set _ HNX.out hwX).set _ HNY.out hwY, S2.out.on, S2.out.len, S2.out.free⟩
    have hz : ((w2.setCell ⟨bX, 1, none⟩ (.int .u8 (a.toNat : Int))).setCell ⟨bY, 1, none⟩ (.int .u8 (b.toNat : Int))).heap.size = w2.heap.size := by simp
    clear hcx hfx hcy hfy MX MY S2
    generalize ((w2.setCell ⟨bX, 1, none⟩ (.int .u8 (a.toNat : Int))).setCell ⟨bY, 1, none⟩ (.int .u8 (b.toNat : Int))) = w3 at *
    rw [← hz]
    clear hz
    have HXL : Hid ((zeros.set 1 a).length = 128) := set_len a
    have HYL : Hid ((zeros.set 1 b).length = 128) := set_len b
    generalize zeros.set 1 a = lx at *
    generalize zeros.set 1 b = ly at *
    have HTW := Lib.hid (two_at (x := lx) (y := ly) hp.2 hq.2 hpq)
    have HFIT := Lib.hid (fit_2 hp hq hpq HXL.out HYL.out)
    refine (commitO (ws := [((p : Int), lx), ((q : Int), ly)]) (Ons.below S3.out ((Below.refl _ w3).alloc (Nat.le_refl _) _)) (wrs_12 (M := fun z => z = bX ∨ z = bY) p q (OX.out.bts HXL.out (.inl rfl)) (OY.out.bts HYL.out (.inr rfl)) (fun z hz => by rcases hz with rfl | rfl; exact OX.out.lt; exact OY.out.lt)) ?_ HFIT.out).mono ?_
    · rintro z ((rfl | rfl) | rfl)
      · exact ⟨by simp; have := OX.out.lt; omega, HNX.out⟩
      · exact ⟨by simp; have := OY.out.lt; omega, HNY.out⟩
      · exact ⟨by simp, fun e => by have := S3.out.sit.drv.lt _ e; omega⟩
    rintro e w4 ⟨rfl, O4, s4, hs4, hc4, hn4⟩
    have S4 := Lib.hid hs4
    have hbl := (Below.refl w3.heap.size w3).alloc (Nat.le_refl _) (.cells #[.int .i64 (p : Int), .slice (some ⟨bX, 0, none⟩) 128 128, .int .i64 (q : Int), .slice (some ⟨bY, 0, none⟩) 128 128] 56)
    have OX3 := OX.out.below hbl
    have OY3 := OY.out.below hbl
    have OX4 := Lib.hid (OX3.chg hc4 HNX.out)
    have OY4 := Lib.hid (OY3.chg hc4 HNY.out)
    have HNX4 := Lib.hid (not_after hn4 HNX.out OX3.lt)
    have HNY4 := Lib.hid (not_after hn4 HNY.out OY3.lt)
    clear hs4 hc4 hn4 S3 OX OY HNX HNY hbl OX3 OY3
    generalize lay (X0 80) (toW [((p : Int), lx), ((q : Int), ly)]) = X at *
    go_wp2_with fail
    refine (restartO S4.out (ints_none w4 (fun _ => False)) (fun _ hf => hf.elim)).mono ?_
    rintro e w5 ⟨rfl, O5, s5, hs5, hc5, hn5⟩
    have S5 := Lib.hid hs5
    have OX5 := Lib.hid (OX4.out.chg hc5 HNX4.out)
    have OY5 := Lib.hid (OY4.out.chg hc5 HNY4.out)
    have HNX5 := Lib.hid (not_after hn5 HNX4.out OX4.out.lt)
    have HNY5 := Lib.hid (not_after hn5 HNY4.out OY4.out.lt)
    clear hs5 hc5 hn5 S4 OX4 OY4 HNX4 HNY4
    go_wp2_with fail
    refine (recoverE S5.out).mono ?_
    rintro e w6 ⟨rfl, O6, hs6, hc6, hn6⟩
    have S6 := Lib.hid hs6
    have OX6 := Lib.hid (OX5.out.chg hc6 HNX5.out)
    have OY6 := Lib.hid (OY5.out.chg hc6 HNY5.out)
    have HNX6 := Lib.hid (not_after hn6 HNX5.out OX5.out.lt)
    have HNY6 := Lib.hid (not_after hn6 HNY5.out OY5.out.lt)
    clear hs6 hc6 hn6 S5 OX5 OY5 HNX5 HNY5
    go_wp2_with fail
    refine (image_any S6.out.sit.drv).mono ?_
    rintro e w7 ⟨g7, rfl, hg7, hr7, hb7⟩
    have S7 := Lib.hid (Ons.below S6.out hb7)
    have OX7 := Lib.hid (OX6.out.below hb7)
    have OY7 := Lib.hid (OY6.out.below hb7)
    have R7 := Lib.hid hr7
    have HFR : Hid (∀ z ∈ O6, z < w6.heap.size) := S6.out.sit.drv.lt
    clear hr7 hb7 S6 OX6 OY6
    go_wp2_with fail
    refine (recoverE S7.out).mono ?_
    rintro e w8 ⟨rfl, O8, hs8, hc8, hn8⟩
    have S8 := Lib.hid hs8
    have OX8 := Lib.hid (OX7.out.chg hc8 HNX6.out)
    have OY8 := Lib.hid (OY7.out.chg hc8 HNY6.out)
    have R8 : Hid (Rows1 w8 g7 80 w6.heap.size s5.lasting 80) := by
      obtain ⟨C, hC, hCs, hrow⟩ := R7.out
      have hg7l : g7 < w7.heap.size := (Array.getElem?_eq_some_iff.1 hC).1
      refine ⟨C, (hc8.block g7 hg7l fun e => by have := HFR.out _ e; omega).trans hC, hCs, fun j x hj hx => ?_⟩
      obtain ⟨bj, q1, q2, q3, q4⟩ := hrow j x hj hx
      exact ⟨bj, q1, q2, q3, (hc8.block bj (Array.getElem?_eq_some_iff.1 q4).1 fun e => by have := HFR.out _ e; omega).trans q4⟩
    clear hs8 hc8 hn8 S7 OX7 OY7 HNX6 HNY6 R7 HFR
    go_wp2_with fail
    refine (image_any S8.out.sit.drv).mono ?_
    rintro e w9 ⟨g9, rfl, hg9, hr9, hb9⟩
    have S9 := Lib.hid (Ons.below S8.out hb9)
    have OX9 := Lib.hid (OX8.out.below hb9)
    have OY9 := Lib.hid (OY8.out.below hb9)
    have R9 := Lib.hid hr9
    have RO : Hid (Rows1 w9 g7 80 w6.heap.size s5.lasting 80) := by
      obtain ⟨C, hC, hCs, hrow⟩ := R8.out
      refine ⟨C, (hb9.block g7 (Array.getElem?_eq_some_iff.1 hC).1).trans hC, hCs, fun j x hj hx => ?_⟩
      obtain ⟨bj, q1, q2, q3, q4⟩ := hrow j x hj hx
      exact ⟨bj, q1, q2, q3, (hb9.block bj (Array.getElem?_eq_some_iff.1 q4).1).trans q4⟩
    clear hr9 hb9 S8 OX8 OY8 R8
    go_wp2_with fail
    go_loopw [18] (fun i wr => ∃ k : Nat, k ≤ 80 ∧ i = .int .i64 k ∧ Hid (Below w9.heap.size w9 wr)) (fun i _ => 80 - (intOf i).toNat)
    case atStart => exact ⟨0, Nat.zero_le _, rfl, Below.refl _ _⟩
    case round =>
      obtain ⟨k, hk, rfl, HB⟩ := hrel
      by_cases hlt : k < 80
      · obtain ⟨x, hx, hxl⟩ := Ons.las128 S9.out hlt
        obtain ⟨b1, hc1, hv1⟩ := row_at RO.out HB.out hlt hx hxl
        obtain ⟨b2, hc2, hv2⟩ := row_at R9.out HB.out hlt hx hxl
        have hv1' := fun n => hv1 (wr.drewN n) rfl
        have hv2' := fun n => hv2 (wr.drewN n) rfl
        have hv1'' := hv1 wr.drew rfl
        have hv2'' := hv2 wr.drew rfl
        have hsn := same_not x
        have hk0 : (0 : Int) ≤ (k : Int) := by omega
        have hk8 : (k : Int) < 80 := by omega
        clear hx hxl hv1 hv2
        go_wp2_with fail
        go_quiet (fail)
        go_wp2_with fail
        exact ⟨⟨k + 1, by omega, by go_num, below_drewN HB.out _⟩, by simp [intOf]; omega⟩
      · obtain rfl : k = 80 := by omega
        have hxp : s5.lasting[p]? = some lx := (Ons.last S9.out hp.2 (by unfold inLog; omega)).trans HTW.out.1
        have hxq : s5.lasting[q]? = some ly := (Ons.last S9.out hq.2 (by unfold inLog; omega)).trans HTW.out.2
        obtain ⟨b1, hc1, hv1⟩ := row_at R9.out HB.out hp.2 hxp HXL.out
        obtain ⟨b2, hc2, hv2⟩ := row_at R9.out HB.out hq.2 hxq HYL.out
        have hv1' := fun n => hv1 (wr.drewN n) rfl
        have hv2' := fun n => hv2 (wr.drewN n) rfl
        have hv1'' := hv1 wr.drew rfl
        have hv2'' := hv2 wr.drew rfl
        have OXr := OX9.out.below HB.out
        have OYr := OY9.out.below HB.out
        have hx1 := fun n => Own.text (w := wr.drewN n) (OXr.keep rfl) HXL.out
        have hy1 := fun n => Own.text (w := wr.drewN n) (OYr.keep rfl) HYL.out
        have hx2 := Own.text (w := wr.drew) (OXr.keep rfl) HXL.out
        have hy2 := Own.text (w := wr.drew) (OYr.keep rfl) HYL.out
        have hsx := same_yes lx
        have hsy := same_yes ly
        have hp0 : (0 : Int) ≤ (p : Int) := by omega
        have hp8 : (p : Int) < 80 := by omega
        have hq0 : (0 : Int) ≤ (q : Int) := by omega
        have hq8 : (q : Int) < 80 := by omega
        have HEND := Lib.hid (S9.out.sit.bel.trans (HB.out.mono S9.out.sit.bel.size))
        clear hxp hxq hv1 hv2 OXr OYr
        go_wp2_with fail
        go_quiet (fail)
        go_wp2_with fail
        go_ret
        exact ⟨rfl, below_drewN HEND.out _⟩
end Go.Proofs.Ytlhkkelpombbiaa.redoTwice
