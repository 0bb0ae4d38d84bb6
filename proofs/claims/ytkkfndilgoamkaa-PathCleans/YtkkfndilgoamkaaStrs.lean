/- A slice of strings that reads as a list of texts; ref.Same and ref.Join, walked. -/
import Derived.Test.YtkkfndilgoamkaaName
import Derived.Deep.Draws
namespace Go.Proofs.Ytkkfndilgoamkaa
open Go.RowKit
set_option linter.unusedVariables false

def bs (l : List UInt8) : ByteArray := ⟨l.toArray⟩
theorem bs_data (l : List UInt8) : (bs l).data.toList = l := rfl
theorem bs_list (l : List UInt8) : (bs l).toList = l := by rw [Lib.toList_data]; rfl
theorem data_bs (s : ByteArray) : bs s.data.toList = s := Lib.mk_data s
theorem bs_size (l : List UInt8) : (bs l).size = l.length := by rw [Lib.size_eq]; rfl
theorem bs_inj {a b : List UInt8} (h : bs a = bs b) : a = b := by rw [← bs_data a, h, bs_data]
/-- The slice '.slice A n c' holds the texts l; where it has any, they lie in a block below B. -/
structure Strs (w : World) (B : Nat) (A : Option Addr) (n c : Nat) (l : List (List UInt8)) : Prop where
  len : l.length = n
  cap : n ≤ c
  lim : c ≤ maxLen
  nil : A = none → c = 0
  at_ : 0 < n → ∃ b off, A = some ⟨b, off, none⟩ ∧ b < B ∧ ∀ j, j < n → w.cell? ⟨b, off + j, none⟩ = some (.string (bs (l[j]?.getD [])))

section
variable {w w' : World} {B B' n c : Nat} {A : Option Addr} {l : List (List UInt8)}
theorem Strs.keep (h : Strs w B A n c l) (hk : ∀ p : Addr, p.block < B → w'.cell? p = w.cell? p) : Strs w' B A n c l :=
  ⟨h.len, h.cap, h.lim, h.nil, fun hn => by
    obtain ⟨b, off, e, hb, hc⟩ := h.at_ hn
    exact ⟨b, off, e, hb, fun j hj => (hk _ hb).trans (hc j hj)⟩⟩
theorem Strs.more (h : Strs w B A n c l) (hB : B ≤ B') : Strs w B' A n c l :=
  ⟨h.len, h.cap, h.lim, h.nil, fun hn => by
    obtain ⟨b, off, e, hb, hc⟩ := h.at_ hn
    exact ⟨b, off, e, by omega, hc⟩⟩
theorem Strs.below (h : Strs w B A n c l) (hb : Below B w w') : Strs w' B A n c l := h.keep fun _ hp => hb.cell hp
theorem Strs.nil_ (w : World) (B : Nat) : Strs w B none 0 0 [] := ⟨rfl, Nat.le_refl _, by decide, fun _ => rfl, fun h => absurd h (by omega)⟩
theorem Strs.cell (h : Strs w B A n c l) {k : Nat} (hk : k < n) : ∃ b off, A = some ⟨b, off, none⟩ ∧ b < B ∧ w.cell? ⟨b, off + k, none⟩ = some (.string (bs (l[k]?.getD []))) := by
  obtain ⟨b, off, e, hb, hc⟩ := h.at_ (by omega)
  exact ⟨b, off, e, hb, hc k hk⟩
theorem Strs.head (h : Strs w B A n c l) {s : Nat} (hs : s ≤ n) : Strs w B A s c (l.take s) :=
  ⟨by rw [List.length_take, h.len]; omega, Nat.le_trans hs h.cap, h.lim, h.nil, fun hn => by
    obtain ⟨b, off, e, hb, hc⟩ := h.at_ (by omega)
    refine ⟨b, off, e, hb, fun j hj => ?_⟩
    rw [hc j (by omega), List.getElem?_take, if_pos hj]⟩
end
theorem below_drewN {B : Nat} {a w : World} (h : Below B a w) (n : Nat) : Below B a (w.drewN n) := ⟨h.os, h.tape, h.output, h.size, h.block⟩
theorem take_eq {l l' : List (List UInt8)} {k : Nat} (h : k < l.length) (h' : k < l'.length) (hk : l.take k = l'.take k) (he : l[k]?.getD [] = l'[k]?.getD []) : l.take (k + 1) = l'.take (k + 1) := by
  rw [List.take_succ_eq_append_getElem h, List.take_succ_eq_append_getElem h', hk]
  rw [List.getElem?_eq_getElem h, List.getElem?_eq_getElem h'] at he
  simp only [Option.getD_some] at he
  rw [he]
set_option maxHeartbeats 1000000 in
theorem same_any (A A' : Option Addr) (n c n' c' B : Nat) (l l' : List (List UInt8)) (w : World) (h : Strs w B A n c l) (h' : Strs w B A' n' c' l') (hB : B ≤ w.heap.size) :
    Calls Try.prog 13 #[.slice A n c, .slice A' n' c'] w fun e w' => e = .returned (.bool (decide (l = l'))) ∧ Below w.heap.size w w' := by
  have H := Lib.hid h
  have H' := Lib.hid h'
  have hl := h.lim
  have hc := h.cap
  unfold maxLen at hl
  clear h h'
  by_cases hn : n = n'
  · subst hn
    go_enter Try.func13, Try.ntmps13
    go_wp2
    go_loopw [5] (fun i wr => ∃ k : Nat, k ≤ n ∧ i = .int .i64 k ∧ Hid (l.take k = l'.take k) ∧ Hid (Below w.heap.size w wr)) (fun i _ => n - (intOf i).toNat)
    case atStart => exact ⟨0, Nat.zero_le _, rfl, rfl, Below.refl _ _⟩
    case round =>
      obtain ⟨k, hk, rfl, HE, HB⟩ := hrel
      by_cases hlt : k < n
      · obtain ⟨b, off, rfl, hb, hcell⟩ := (H.out.below (HB.out.mono hB)).cell hlt
        obtain ⟨b', off', rfl, hb', hcell'⟩ := (H'.out.below (HB.out.mono hB)).cell hlt
        by_cases he : l[k]?.getD [] = l'[k]?.getD []
        · have HT := Lib.hid (take_eq (by rw [H.out.len]; exact hlt) (by rw [H'.out.len]; exact hlt) HE.out he)
          rw [← he] at hcell'
          clear he
          generalize bs (l[k]?.getD []) = x at *
          go_wp2
          go_quiet (fail)
          go_wp2
          go_roundw
          case rel => exact ⟨k + 1, by omega, by go_num, HT, below_drewN HB.out _⟩
          case measure => simp [intOf]; omega
        · have HN : Hid (decide (l = l') = false) := by
            show _ = _
            simp only [decide_eq_false_iff_not]
            exact fun e => he (by rw [e])
          have hne : ((bs (l[k]?.getD [])).toList == (bs (l'[k]?.getD [])).toList) = false := by rw [bs_list, bs_list]; simpa using he
          have hne' : ¬ (bs (l[k]?.getD [])).toList = (bs (l'[k]?.getD [])).toList := by rw [bs_list, bs_list]; simpa using he
          clear he
          generalize bs (l[k]?.getD []) = x at *
          generalize bs (l'[k]?.getD []) = y at *
          go_wp2
          go_quiet (fail)
          go_wp2
          go_ret
          exact ⟨retb HN.out.symm, below_drewN HB.out _⟩
      · obtain rfl : k = n := by omega
        have HN : Hid (decide (l = l') = true) := by
          show _ = _
          have := HE.out
          rw [List.take_of_length_le (by rw [H.out.len]; omega), List.take_of_length_le (by rw [H'.out.len]; omega)] at this
          simp [this]
        go_wp2
        go_ret
        exact ⟨retb HN.out.symm, HB.out⟩
  · have hn' : ((n : Int) != (n' : Int)) = true := by rw [bne_iff_ne]; omega
    have HN : Hid (decide (l = l') = false) := by
      show _ = _
      simp only [decide_eq_false_iff_not]
      intro e
      apply hn
      rw [← H.out.len, ← H'.out.len, e]
    go_enter Try.func13, Try.ntmps13
    go_wp2
    go_ret
    exact ⟨retb HN.out.symm, Below.refl _ _⟩
theorem joinT_take {l : List (List UInt8)} {k : Nat} (h : k < l.length) : joinT (l.take (k + 1)) = joinT (l.take k) ++ 47 :: (l[k]?.getD []) := by
  rw [List.take_succ_eq_append_getElem h, List.getElem?_eq_getElem h]
  unfold joinT
  rw [List.flatMap_append]
  simp only [List.flatMap_cons, List.flatMap_nil, List.append_nil, Option.getD_some]
theorem joinT_take_le (l : List (List UInt8)) (k : Nat) : (joinT (l.take k)).length ≤ (joinT l).length := by
  conv => rhs; rw [← List.take_append_drop k l]
  unfold joinT
  rw [List.flatMap_append, List.length_append]
  omega
theorem joinT_nil {l : List (List UInt8)} : joinT l = [] ↔ l = [] := by
  cases l <;> simp [joinT]
theorem bs_app (a b : List UInt8) : bs a ++ bs b = bs (a ++ b) := by
  rw [← data_bs (bs a ++ bs b)]
  congr 1
set_option maxHeartbeats 1000000 in
theorem refJoin_any (A : Option Addr) (n c B : Nat) (l : List (List UInt8)) (w : World) (h : Strs w B A n c l) (hj : (joinT l).length ≤ 1000000) :
    Calls Try.prog 17 #[.slice A n c] w fun e w' => e = .returned (.string (bs (joinL l))) ∧ w = w' := by
  have H := Lib.hid h
  have hl := h.lim
  have hc := h.cap
  unfold maxLen at hl
  clear h
  go_enter Try.func17, Try.ntmps17
  go_wp2
  go_loop [3, 4] (fun o i => ∃ k : Nat, k ≤ n ∧ i = .int .i64 k ∧ o = .string (bs (joinT (l.take k)))) (fun _ i => n - (intOf i).toNat)
  case atStart => exact ⟨0, Nat.zero_le _, rfl, rfl⟩
  case round =>
    obtain ⟨k, hk, rfl, rfl⟩ := hrel
    by_cases hlt : k < n
    · obtain ⟨b, off, rfl, hb, hcell⟩ := H.out.cell hlt
      have HT := Lib.hid (joinT_take (l := l) (k := k) (by rw [H.out.len]; exact hlt))
      have hle := joinT_take_le l (k + 1)
      rw [HT.out, List.length_append, List.length_cons] at hle
      have e1 : (bs (joinT (l.take k))).size = (joinT (l.take k)).length := bs_size _
      have e2 : (bs (l[k]?.getD [])).size = (l[k]?.getD []).length := bs_size _
      have i1 : (bs (joinT (l.take k))).size + ((bs (l[k]?.getD [])).size + 1) ≤ 1000000 := by omega
      clear e1 e2 hle
      go_wp2
      go_round
      case rel => exact ⟨k + 1, by omega, by go_num, by rw [HT.out, show ({ data := #[47] } : ByteArray) = bs [47] from rfl, bs_app, bs_app]; rfl⟩
      case measure => simp [intOf]; omega
    · obtain rfl : k = n := by omega
      have ht : l.take k = l := List.take_of_length_le (by rw [H.out.len]; omega)
      rw [ht]
      clear ht
      by_cases h0 : l = []
      · subst h0
        have h3 : (bs (joinT [])).toList.isEmpty = true := by rw [bs_list]; rfl
        go_wp2
        go_ret
        exact ⟨rfl, rfl⟩
      · have HJ : Hid (joinL l = joinT l) := by show _ = _; unfold joinL; rw [if_neg h0]
        have h1 : ((bs (joinT l)).toList == []) = false := by rw [bs_list]; simpa using fun e => h0 (joinT_nil.1 e)
        have h2 : ¬ (bs (joinT l)).toList = [] := by rw [bs_list]; exact fun e => h0 (joinT_nil.1 e)
        have h3 : (bs (joinT l)).toList.isEmpty = false := by rw [bs_list]; cases e : joinT l with
          | nil => exact absurd (joinT_nil.1 e) h0
          | cons => rfl
        go_wp2
        go_ret
        exact ⟨by rw [HJ.out]; rfl, rfl⟩
end Go.Proofs.Ytkkfndilgoamkaa
