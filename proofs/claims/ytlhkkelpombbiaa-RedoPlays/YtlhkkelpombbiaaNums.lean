/- slices.Index, slices.Contains, redo.allowed, copyholdref06.Good, copyholdref06.Ints, walked. -/
import Derived.Test.YtlhkkelpombbiaaKit
import Derived.Test.YtlhkkelpombbiaaLog
namespace Go.Proofs.Ytlhkkelpombbiaa
open Go.RowKit
set_option linter.unusedVariables false

section
variable {w w' : World} {M M' : Nat → Prop} {A : Option Addr} {n c : Nat} {l : List Int}
theorem Ints.more (h : Ints w M A n c l) (hk : ∀ b, M b → M' b) : Ints w M' A n c l :=
  ⟨h.len, h.cap, h.lim, fun hn => by
    obtain ⟨b, off, e, hb, hc⟩ := h.at_ hn
    exact ⟨b, off, e, hk b hb, hc⟩⟩
theorem Ints.cell (h : Ints w M A n c l) {k : Nat} (hk : k < n) : ∃ b off, A = some ⟨b, off, none⟩ ∧ M b ∧ w.cell? ⟨b, off + k, none⟩ = some (.int .i64 (l[k]?.getD 0)) := by
  obtain ⟨b, off, e, hb, hc⟩ := h.at_ (by omega)
  exact ⟨b, off, e, hb, hc k hk⟩
theorem Ints.head (h : Ints w M A n c l) {k : Nat} (hk : k ≤ n) : Ints w M A k c (l.take k) :=
  ⟨by rw [List.length_take, h.len]; omega, by have := h.cap; omega, h.lim, fun h0 => by
    obtain ⟨b, off, e, hb, hc⟩ := h.at_ (by omega)
    exact ⟨b, off, e, hb, fun j hj => by rw [hc j (by omega), List.getElem?_take, if_pos hj]⟩⟩
end
theorem get_of {α : Type} {l : List α} {k n : Nat} {d : α} (h : l.length = n) (hk : k < n) : l[k]? = some (l[k]?.getD d) := by
  rw [List.getElem?_eq_getElem (by omega)]; rfl
/-- The place of a number in a list, or -1. -/
def IdxP (l : List Int) (v : Int) (x : Int) : Prop := (x = -1 ∧ v ∉ l) ∨ (0 ≤ x ∧ v ∈ l)
def IdxR (w : World) (l : List Int) (v : Int) (e : Ending) (w' : World) : Prop := ∃ x, e = .returned (.int .i64 x) ∧ IdxP l v x ∧ w = w'
theorem mem_take {l : List Int} {k : Nat} {v : Int} (hk : k < l.length) : v ∈ l.take (k + 1) ↔ v ∈ l.take k ∨ v = l[k]?.getD 0 := by
  rw [List.take_succ_eq_append_getElem hk, List.mem_append, List.mem_singleton, List.getElem?_eq_getElem hk]
  rfl
theorem index_any {w : World} {M : Nat → Prop} {A : Option Addr} {n c : Nat} {l : List Int} (v : Int) (h : Ints w M A n c l) :
    Calls Try.prog 62 #[.slice A n c, .int .i64 v] w (IdxR w l v) := by
  have HI := Lib.hid h
  have HL := Lib.hid h.len
  have hcap := h.cap
  have hlim := h.lim
  unfold maxLen at hlim
  clear h
  go_enter Try.func62, Try.ntmps62
  go_wp2
  go_loop [8] (fun i => ∃ k : Nat, k ≤ n ∧ i = .int .i64 k ∧ Hid (v ∉ l.take k)) (fun i => n - (intOf i).toNat)
  case atStart => exact ⟨0, Nat.zero_le _, rfl, by simp [Hid]⟩
  case round =>
    obtain ⟨k, hk, rfl, HN⟩ := hrel
    by_cases hlt : k < n
    · obtain ⟨b, off, rfl, hb, hc⟩ := HI.out.cell hlt
      have hm : v ∈ l.take (k + 1) ↔ v ∈ l.take k ∨ v = l[k]?.getD 0 := mem_take (by rw [HL.out]; exact hlt)
      have HX : Hid (l[k]? = some (l[k]?.getD 0)) := get_of HL.out hlt
      have HM := Lib.hid hm
      clear hm
      generalize l[k]?.getD 0 = x at *
      by_cases hx : v = x
      · subst hx
        go_wp2
        go_ret
        exact ⟨_, rfl, .inr ⟨by omega, List.mem_of_getElem? HX.out⟩, rfl⟩
      · have hx' : (v == x) = false := by simpa using hx
        have HX2 := Lib.hid hx
        clear hx
        go_wp2
        go_round
        case rel => exact ⟨k + 1, by omega, by go_num, fun hmem => by rcases HM.out.1 hmem with h | h; exact HN.out h; exact HX2.out h⟩
        case measure => simp [intOf]; omega
    · obtain rfl : k = n := by omega
      go_wp2
      go_ret
      refine ⟨_, rfl, .inl ⟨rfl, ?_⟩, rfl⟩
      have := HN.out
      rwa [List.take_of_length_le (by rw [HL.out]; omega)] at this
theorem contains_any {w : World} {M : Nat → Prop} {A : Option Addr} {n c : Nat} {l : List Int} (v : Int) (h : Ints w M A n c l) :
    Calls Try.prog 52 #[.slice A n c, .int .i64 v] w fun e w' => e = .returned (.bool (decide (v ∈ l))) ∧ w = w' := by
  have H := Lib.hid h
  clear h
  go_enter Try.func52, Try.ntmps52
  go_wp2_with fail
  refine (index_any v H.out).mono ?_
  rintro e w1 ⟨x, rfl, hx, rfl⟩
  have HD : Hid (decide (v ∈ l) = decide (0 ≤ x)) := by
    show _ = _
    rcases hx with ⟨rfl, hx⟩ | ⟨h0, hx⟩
    · simp [hx]
    · simp [hx, h0]
  clear hx
  go_wp2_with fail
  go_ret
  exact ⟨retb HD.out.symm, rfl⟩
theorem good_upto {l : List Int} (hl : l.length ≤ 24) (h1 : l.all okn = true) (h2 : l.Nodup) : good l = true := good_iff.2 ⟨hl, List.all_eq_true.1 h1, h2⟩
theorem take_nodup {l : List Int} {k : Nat} {x : Int} (h : l[k]? = some x) (h1 : (l.take k).Nodup) (h2 : x ∉ l.take k) : (l.take (k + 1)).Nodup := by
  obtain ⟨hk, rfl⟩ := List.getElem?_eq_some_iff.1 h
  rw [List.take_succ_eq_append_getElem hk]
  refine List.nodup_append.2 ⟨h1, by simp, fun a ha b hb => ?_⟩
  simp only [List.mem_singleton] at hb
  subst hb
  exact fun e => h2 (e ▸ ha)
theorem not_good_at {l : List Int} {k : Nat} {x : Int} (h : l[k]? = some x) (h2 : okn x = false ∨ x ∈ l.take k) : good l = false := by
  rw [Bool.eq_false_iff]
  intro hg
  obtain ⟨_, g1, g2⟩ := good_iff.1 hg
  rcases h2 with h2 | h2
  · rw [g1 x (List.mem_of_getElem? h)] at h2; cases h2
  · obtain ⟨hk, rfl⟩ := List.getElem?_eq_some_iff.1 h
    rw [← List.take_append_drop (k + 1) l, List.take_succ_eq_append_getElem hk] at g2
    have := (List.nodup_append.1 (List.nodup_append.1 g2).1).2.2 _ h2 l[k] (by simp)
    exact this rfl
set_option maxHeartbeats 1000000 in
theorem allowed_any {w : World} {M : Nat → Prop} {A : Option Addr} {n c : Nat} {l : List Int} (h : Ints w M A n c l) :
    Calls Try.prog 26 #[.slice A n c] w fun e w' => e = .returned (.bool (good l)) ∧ w = w' := by
  have HI := Lib.hid h
  have HL := Lib.hid h.len
  have hcap := h.cap
  have hlim := h.lim
  unfold maxLen at hlim
  clear h
  by_cases hn : 24 < n
  · have HG : Hid (good l = false) := by show _ = _; rw [Bool.eq_false_iff]; intro hg; have := (good_iff.1 hg).1; have := HL.out; omega
    have hn1 : decide (24 < (n : Int)) = true := by simp; omega
    go_enter Try.func26, Try.ntmps26
    go_wp2_with fail
    go_ret
    exact ⟨retb HG.out.symm, rfl⟩
  have hn1 : decide (24 < (n : Int)) = false := by simp; omega
  go_enter Try.func26, Try.ntmps26
  go_wp2_with fail
  go_loop [11] (fun i => ∃ k : Nat, k ≤ n ∧ i = .int .i64 k ∧ Hid ((l.take k).all okn = true ∧ (l.take k).Nodup)) (fun i => n - (intOf i).toNat)
  case atStart => exact ⟨0, Nat.zero_le _, rfl, by simp [Hid]⟩
  case round =>
    obtain ⟨k, hk, rfl, HN⟩ := hrel
    by_cases hlt : k < n
    · obtain ⟨b, off, rfl, hb, hc⟩ := HI.out.cell hlt
      have HX : Hid (l[k]? = some (l[k]?.getD 0)) := get_of HL.out hlt
      have HK := Lib.hid (HI.out.head hk)
      generalize l[k]?.getD 0 = x at *
      by_cases h0 : x < 0
      · have HG := Lib.hid (not_good_at HX.out (.inl (by rw [Bool.eq_false_iff, Ne, okn_iff]; omega)))
        go_wp2_with fail
        go_ret
        exact ⟨retb HG.out.symm, rfl⟩
      by_cases h1 : 1024 ≤ x
      · have HG := Lib.hid (not_good_at HX.out (.inl (by rw [Bool.eq_false_iff, Ne, okn_iff]; omega)))
        go_wp2_with fail
        go_ret
        exact ⟨retb HG.out.symm, rfl⟩
      by_cases h2 : 1 ≤ x ∧ x < 26
      · have HG := Lib.hid (not_good_at HX.out (.inl (by rw [Bool.eq_false_iff, Ne, okn_iff]; omega)))
        obtain ⟨h2, h3⟩ := h2
        go_wp2_with fail
        go_ret
        exact ⟨retb HG.out.symm, rfl⟩
      have HO : Hid (okn x = true) := okn_iff.2 ⟨by omega, by omega, by omega⟩
      have hcase : x < 1 ∨ (¬ x < 1 ∧ ¬ x < 26) := by omega
      clear h2
      by_cases hm : x ∈ l.take k
      · have HG := Lib.hid (not_good_at HX.out (.inr hm))
        have HD : Hid (decide (x ∈ l.take k) = true) := by show _ = _; simpa using hm
        clear hm
        rcases hcase with h2 | ⟨h2, h3⟩
        all_goals
          go_wp2_with fail
          refine (contains_any x HK.out).mono ?_
          rintro e w1 ⟨rfl, rfl⟩
          rw [HD.out]
          go_wp2_with fail
          go_ret
          exact ⟨retb HG.out.symm, rfl⟩
      · have HD : Hid (decide (x ∈ l.take k) = false) := by show _ = _; simpa using hm
        have HN2 : Hid ((l.take (k + 1)).all okn = true ∧ (l.take (k + 1)).Nodup) := ⟨all_take HX.out HN.out.1 HO.out, take_nodup HX.out HN.out.2 hm⟩
        clear hm
        rcases hcase with h2 | ⟨h2, h3⟩
        all_goals
          go_wp2_with fail
          refine (contains_any x HK.out).mono ?_
          rintro e w1 ⟨rfl, rfl⟩
          rw [HD.out]
          go_wp2_with fail
          go_round
          case rel => exact ⟨k + 1, by omega, by go_num, HN2⟩
          case measure => simp [intOf]; omega
    · obtain rfl : k = n := by omega
      have HG : Hid (good l = true) := by
        have := HN.out
        rw [List.take_of_length_le (by rw [HL.out]; omega)] at this
        exact good_upto (by rw [HL.out]; omega) this.1 this.2
      go_wp2_with fail
      go_ret
      exact ⟨retb HG.out.symm, rfl⟩
end Go.Proofs.Ytlhkkelpombbiaa
