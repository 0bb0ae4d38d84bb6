/- copyholdref17: Right, Short, walked. -/
import Derived.Test.YtfignanjelebaaaVNums
import Derived.Deep.CutRange
namespace Go.Proofs.Ytfignanjelebaaa
open Go.RowKit
set_option linter.unusedVariables false
/-- The slice '.slice A n c' holds the texts l. -/
structure Strs (w : World) (B : Nat) (A : Option Addr) (n c : Nat) (l : List (List UInt8)) : Prop where
  len : l.length = n
  cap : n ≤ c
  at_ : 0 < n → ∃ b off, A = some ⟨b, off, none⟩ ∧ b < B ∧ ∀ j, j < n → w.cell? ⟨b, off + j, none⟩ = some (.string ⟨(l[j]?.getD []).toArray⟩)
section
variable {w w' : World} {B B' n c : Nat} {A : Option Addr} {l : List (List UInt8)}
theorem Strs.keep (h : Strs w B A n c l) (hk : ∀ p : Addr, p.block < B → w'.cell? p = w.cell? p) : Strs w' B A n c l :=
  ⟨h.len, h.cap, fun hn => by
    obtain ⟨b, off, e, hb, hc⟩ := h.at_ hn
    exact ⟨b, off, e, hb, fun j hj => (hk _ hb).trans (hc j hj)⟩⟩
theorem Strs.more (h : Strs w B A n c l) (hB : B ≤ B') : Strs w B' A n c l :=
  ⟨h.len, h.cap, fun hn => by
    obtain ⟨b, off, e, hb, hc⟩ := h.at_ hn
    exact ⟨b, off, e, by omega, hc⟩⟩
theorem Strs.below (h : Strs w B A n c l) (hb : Below B w w') : Strs w' B A n c l := h.keep fun _ hp => hb.cell hp
theorem Strs.nil_ (w : World) (B : Nat) : Strs w B none 0 0 [] := ⟨rfl, Nat.le_refl _, fun h => absurd h (by omega)⟩
theorem Strs.cell (h : Strs w B A n c l) {k : Nat} (hk : k < n) : ∃ b off, A = some ⟨b, off, none⟩ ∧ b < B ∧ w.cell? ⟨b, off + k, none⟩ = some (.string ⟨(l[k]?.getD []).toArray⟩) := by
  obtain ⟨b, off, e, hb, hc⟩ := h.at_ (by omega)
  exact ⟨b, off, e, hb, hc k hk⟩
end
theorem rnot_low {r : Rp} (h : ¬ r.low) : decide r.Good = false := decide_eq_false fun g => h g.1
theorem rnot_few {r : Rp} {k : Nat} (hk : k < r.ns.length) (h : 24 < (r.ns[k]?.getD []).length) : decide r.Good = false := decide_eq_false fun g => by
  have := g.2.1 r.ns[k] (List.getElem_mem hk)
  rw [List.getElem?_eq_getElem hk] at h
  simp only [Option.getD_some] at h
  omega
theorem rfew {r : Rp} (h : ∀ j, j < r.ns.length → (r.ns[j]?.getD []).length ≤ 24) : r.few := fun s hs => by
  obtain ⟨j, hj, e⟩ := List.mem_iff_getElem.1 hs
  have := h j hj
  rw [List.getElem?_eq_getElem hj] at this
  rw [← e]
  exact this
theorem rnot_stat {r : Rp} (h : ¬ r.stat) : decide r.Good = false := decide_eq_false fun g => h g.2.2
set_option maxRecDepth 100000 in
set_option maxHeartbeats 4000000 in
theorem refRight_any (r : Rp) (A A' : Option Addr) (n c n' c' B : Nat) (w : World) (hn : r.d.length = n) (h : Strs w B A' n' c' r.ns) (hB : B ≤ w.heap.size) : Calls Try.prog 27 #[.agg (rc r A n c A' n' c').toArray] w fun e w' => e = .returned (.bool (decide r.Good)) ∧ Below w.heap.size w w' := by
  obtain ⟨o, ho⟩ : ∃ o, decide r.Good = o := ⟨_, rfl⟩
  rw [ho]
  have HO := Lib.hid ho
  clear ho
  obtain ⟨a0, ab, az⟩ := box1 w (Obj.cells (rc r A n c A' n' c').toArray 44)
  have A0 := Lib.hid a0
  have AB := Lib.hid ab
  have AZ := Lib.hid az
  have HN := Lib.hid (h.below (ab.mono hB))
  have hn' := h.len
  clear a0 ab az h
  obtain ⟨c0, c1, c2, c3, c4, c5, c6, c7, c8, c9, c10, c11⟩ := rc_cells A0.out
  have HR := Lib.hid (range_of A0.out 4 (sc r) (fun j u h => by
    match j, h with
    | 0, h | 1, h | 2, h | 3, h | 4, h | 5, h => exact h))
  go_enter Try.func27, Try.ntmps27
  by_cases h1 : r.e < 0
  case pos =>
    obtain rfl : o = false := by rw [← HO.out]; exact rnot_low (fun h => by have h := h; simp only [Rp.low] at h; omega)
    go_wp2_with fail
    go_ret
    exact ⟨rfl, AB.out⟩
  by_cases h2 : 23 < r.e
  case pos =>
    obtain rfl : o = false := by rw [← HO.out]; exact rnot_low (fun h => by have h := h; simp only [Rp.low] at h; omega)
    go_wp2_with fail
    go_ret
    exact ⟨rfl, AB.out⟩
  by_cases h3 : 256 < n
  case pos =>
    obtain rfl : o = false := by rw [← HO.out]; exact rnot_low (fun h => by have h := h; simp only [Rp.low] at h; omega)
    have h3' : (256 : Int) < (n : Int) := by omega
    go_wp2_with fail
    go_ret
    exact ⟨rfl, AB.out⟩
  by_cases h4 : 512 < n'
  case pos =>
    obtain rfl : o = false := by rw [← HO.out]; exact rnot_low (fun h => by have h := h; simp only [Rp.low] at h; omega)
    have h3' : ¬ (256 : Int) < (n : Int) := by omega
    have h4' : (512 : Int) < (n' : Int) := by omega
    go_wp2_with fail
    go_ret
    exact ⟨rfl, AB.out⟩
  have h3' : ¬ (256 : Int) < (n : Int) := by omega
  have h4' : ¬ (512 : Int) < (n' : Int) := by omega
  go_wp2_with fail
  by_cases h5 : num r.lf
  case neg =>
    obtain rfl : o = false := by rw [← HO.out]; exact rnot_low (fun h => h5 h.2.2.2.2.1)
    refine (number_no _ _ h5).mono ?_
    rintro e w1 ⟨rfl, rfl⟩
    go_wp2_with fail
    go_ret
    exact ⟨rfl, AB.out⟩
  refine (number_yes _ _ h5).mono ?_
  rintro e w1 ⟨rfl, rfl⟩
  go_wp2_with fail
  by_cases h6 : num r.sq
  case neg =>
    obtain rfl : o = false := by rw [← HO.out]; exact rnot_low (fun h => h6 h.2.2.2.2.2.1)
    refine (number_no _ _ h6).mono ?_
    rintro e w1 ⟨rfl, rfl⟩
    go_wp2_with fail
    go_ret
    exact ⟨rfl, AB.out⟩
  refine (number_yes _ _ h6).mono ?_
  rintro e w1 ⟨rfl, rfl⟩
  go_wp2_with fail
  by_cases h7 : num r.ep
  case neg =>
    obtain rfl : o = false := by rw [← HO.out]; exact rnot_low (fun h => h7 h.2.2.2.2.2.2)
    refine (number_no _ _ h7).mono ?_
    rintro e w1 ⟨rfl, rfl⟩
    go_wp2_with fail
    go_ret
    exact ⟨rfl, AB.out⟩
  refine (number_yes _ _ h7).mono ?_
  rintro e w1 ⟨rfl, rfl⟩
  have HL : Hid r.low := ⟨by omega, by omega, by omega, by omega, h5, h6, h7⟩
  clear h5 h6 h7
  go_wp2_with fail
  have hn5 : n' ≤ 512 := by omega
  clear h1 h2 h3 h4 h3' h4'
  go_loop [3] (fun i => ∃ k : Nat, k ≤ n' ∧ i = .int .i64 k ∧ Hid (∀ j, j < k → (r.ns[j]?.getD []).length ≤ 24)) (fun i => n' - (intOf i).toNat)
  case atStart => exact ⟨0, Nat.zero_le _, rfl, fun j hj => absurd hj (by omega)⟩
  case round =>
    obtain ⟨k, hk, rfl, H⟩ := hrel
    by_cases hlt : k < n'
    · have hlt' : (k : Int) < (n' : Int) := by omega
      obtain ⟨b, off, rfl, hb, hc⟩ := HN.out.cell hlt
      have hsz : (ByteArray.mk (r.ns[k]?.getD []).toArray).size = (r.ns[k]?.getD []).length := rfl
      obtain ⟨s, hs⟩ : ∃ s, r.ns[k]?.getD [] = s := ⟨_, rfl⟩
      rw [hs] at hc hsz
      by_cases h24 : 24 < s.length
      · obtain rfl : o = false := by rw [← HO.out]; exact rnot_few (k := k) (by omega) (by rw [hs]; exact h24)
        have h24' : (24 : Int) < (s.length : Int) := by omega
        clear hs
        go_wp2_with fail
        go_ret
        exact ⟨rfl, AB.out⟩
      · have h24' : ¬ (24 : Int) < (s.length : Int) := by omega
        have H' : Hid (∀ j, j < k + 1 → (r.ns[j]?.getD []).length ≤ 24) := fun j hj => by
          rcases Nat.lt_or_ge j k with h | h
          · exact H.out j h
          · rw [show j = k by omega, hs]; omega
        clear hs
        go_wp2_with fail
        go_round
        case rel => exact ⟨k + 1, by omega, by go_num, H'⟩
        case measure => simp [intOf]; omega
    · obtain rfl : k = n' := by omega
      have HF : Hid r.few := rfew (fun j hj => H.out j (by omega))
      have hlt' : ¬ (k : Int) < (k : Int) := by omega
      clear H HN
      generalize w.alloc (Obj.cells (rc r A n c A' k c').toArray 44) = W at *
      obtain ⟨b0, bb, bz⟩ := box1 W (Obj.cells (sc r).toArray 41)
      have AB2 : Hid (Below w.heap.size w (W.alloc (Obj.cells (sc r).toArray 41))) := AB.out.trans (bb.mono AB.out.size)
      obtain ⟨d0, d1, d2, d3, d4, d5⟩ := sc_cells b0
      clear b0 bb bz
      go_wp2_with (first | (refine wpList_load_part rfl 41 _ rfl w.heap.size 4 rfl _ HR.out _ und41 rfl s41 ?_) | (refine wpList_store_new rfl 41 _ _ rfl W _ (sc r).toArray rfl rfl s41 rfl (all_oneCell_toArray (sc_one r)) ?_) | fail)
      by_cases g1 : num r.nd
      case neg =>
        obtain rfl : o = false := by rw [← HO.out]; exact rnot_stat (fun h => g1 h.1)
        refine (number_no _ _ g1).mono ?_
        rintro e w1 ⟨rfl, rfl⟩
        go_wp2_with fail
        go_ret
        exact ⟨rfl, AB2.out⟩
      refine (number_yes _ _ g1).mono ?_
      rintro e w1 ⟨rfl, rfl⟩
      go_wp2_with fail
      by_cases g2 : num r.gn
      case neg =>
        obtain rfl : o = false := by rw [← HO.out]; exact rnot_stat (fun h => g2 h.2.1)
        refine (number_no _ _ g2).mono ?_
        rintro e w1 ⟨rfl, rfl⟩
        go_wp2_with fail
        go_ret
        exact ⟨rfl, AB2.out⟩
      refine (number_yes _ _ g2).mono ?_
      rintro e w1 ⟨rfl, rfl⟩
      go_wp2_with fail
      by_cases g3 : num r.k
      case neg =>
        obtain rfl : o = false := by rw [← HO.out]; exact rnot_stat (fun h => g3 h.2.2.1)
        refine (number_no _ _ g3).mono ?_
        rintro e w1 ⟨rfl, rfl⟩
        go_wp2_with fail
        go_ret
        exact ⟨rfl, AB2.out⟩
      refine (number_yes _ _ g3).mono ?_
      rintro e w1 ⟨rfl, rfl⟩
      go_wp2_with fail
      by_cases g4 : num r.lk
      case neg =>
        obtain rfl : o = false := by rw [← HO.out]; exact rnot_stat (fun h => g4 h.2.2.2.1)
        refine (number_no _ _ g4).mono ?_
        rintro e w1 ⟨rfl, rfl⟩
        go_wp2_with fail
        go_ret
        exact ⟨rfl, AB2.out⟩
      refine (number_yes _ _ g4).mono ?_
      rintro e w1 ⟨rfl, rfl⟩
      go_wp2_with fail
      by_cases g5 : num r.sz
      case neg =>
        obtain rfl : o = false := by rw [← HO.out]; exact rnot_stat (fun h => g5 h.2.2.2.2.1)
        refine (number_no _ _ g5).mono ?_
        rintro e w1 ⟨rfl, rfl⟩
        go_wp2_with fail
        go_ret
        exact ⟨rfl, AB2.out⟩
      refine (number_yes _ _ g5).mono ?_
      rintro e w1 ⟨rfl, rfl⟩
      go_wp2_with fail
      by_cases g6 : num r.ch
      case neg =>
        obtain rfl : o = false := by rw [← HO.out]; exact rnot_stat (fun h => g6 h.2.2.2.2.2)
        refine (number_no _ _ g6).mono ?_
        rintro e w1 ⟨rfl, rfl⟩
        go_wp2_with fail
        go_ret
        exact ⟨rfl, AB2.out⟩
      refine (number_yes _ _ g6).mono ?_
      rintro e w1 ⟨rfl, rfl⟩
      obtain rfl : o = true := by rw [← HO.out]; exact decide_eq_true ⟨HL.out, HF.out, g1, g2, g3, g4, g5, g6⟩
      go_wp2_with fail
      go_ret
      exact ⟨rfl, AB2.out⟩
end Go.Proofs.Ytfignanjelebaaa
