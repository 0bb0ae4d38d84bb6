/- fits, walked. -/
import Derived.Test.YtlhkkelpombbiaaRestart
namespace Go.Proofs.Ytlhkkelpombbiaa
open Go.RowKit
set_option linter.unusedVariables false

/-- The slice '.slice A n c' holds the bytes l; they lie in a block that M knows. -/
structure Bts (w : World) (M : Nat → Prop) (A : Option Addr) (n c : Nat) (l : List UInt8) : Prop where
  len : l.length = n
  cap : n ≤ c
  lim : c ≤ maxLen
  at_ : 0 < n → ∃ b off, A = some ⟨b, off, none⟩ ∧ M b ∧ w.rangeAt b off (bc l)
/-- The slice '.slice A n c' holds the writes ws; they, and their bytes, lie in blocks that M knows. -/
structure Wrs (w : World) (M : Nat → Prop) (A : Option Addr) (n c : Nat) (ws : List Wr) : Prop where
  len : ws.length = n
  cap : n ≤ c
  lim : c ≤ maxLen
  at_ : 0 < n → ∃ b off, A = some ⟨b, off, none⟩ ∧ M b ∧ ∀ j x, ws[j]? = some x → w.cell? ⟨b, off + j * 2, none⟩ = some (.int .i64 x.1) ∧ ∃ A' n' c', w.cell? ⟨b, off + j * 2 + 1, none⟩ = some (.slice A' n' c') ∧ Bts w M A' n' c' x.2
section
variable {w w' : World} {M M' : Nat → Prop} {A : Option Addr} {n c : Nat} {l : List UInt8} {ws : List Wr}
theorem Bts.keep (h : Bts w M A n c l) (hk : ∀ b, M b → w'.heap[b]? = w.heap[b]?) : Bts w' M A n c l :=
  ⟨h.len, h.cap, h.lim, fun hn => by
    obtain ⟨b, off, e, hb, hc⟩ := h.at_ hn
    exact ⟨b, off, e, hb, rangeAt_of_heap hc (hk b hb)⟩⟩
theorem Bts.more (h : Bts w M A n c l) (hk : ∀ b, M b → M' b) : Bts w M' A n c l :=
  ⟨h.len, h.cap, h.lim, fun hn => by
    obtain ⟨b, off, e, hb, hc⟩ := h.at_ hn
    exact ⟨b, off, e, hk b hb, hc⟩⟩
theorem Wrs.keep (h : Wrs w M A n c ws) (hk : ∀ b, M b → w'.heap[b]? = w.heap[b]?) : Wrs w' M A n c ws :=
  ⟨h.len, h.cap, h.lim, fun hn => by
    obtain ⟨b, off, e, hb, hc⟩ := h.at_ hn
    refine ⟨b, off, e, hb, fun j x hj => ?_⟩
    obtain ⟨h1, A', n', c', h2, h3⟩ := hc j x hj
    exact ⟨(World.cell?_of_block (a := ⟨b, off + j * 2, none⟩) (hk b hb)).trans h1, A', n', c', (World.cell?_of_block (a := ⟨b, off + j * 2 + 1, none⟩) (hk b hb)).trans h2, h3.keep hk⟩⟩
theorem Wrs.more (h : Wrs w M A n c ws) (hk : ∀ b, M b → M' b) : Wrs w M' A n c ws :=
  ⟨h.len, h.cap, h.lim, fun hn => by
    obtain ⟨b, off, e, hb, hc⟩ := h.at_ hn
    refine ⟨b, off, e, hk b hb, fun j x hj => ?_⟩
    obtain ⟨h1, A', n', c', h2, h3⟩ := hc j x hj
    exact ⟨h1, A', n', c', h2, h3.more hk⟩⟩
theorem Wrs.get (h : Wrs w M A n c ws) {j : Nat} {x : Wr} (hj : ws[j]? = some x) : ∃ b off, A = some ⟨b, off, none⟩ ∧ M b ∧ w.cell? ⟨b, off + j * 2, none⟩ = some (.int .i64 x.1) ∧ ∃ A' n' c', w.cell? ⟨b, off + j * 2 + 1, none⟩ = some (.slice A' n' c') ∧ Bts w M A' n' c' x.2 := by
  obtain ⟨b, off, e, hb, hc⟩ := h.at_ (by rw [← h.len]; have := (List.getElem?_eq_some_iff.1 hj).1; omega)
  exact ⟨b, off, e, hb, hc j x hj⟩
end
theorem all_take {α : Type} {p : α → Bool} {l : List α} {k : Nat} {x : α} (h : l[k]? = some x) (h1 : (l.take k).all p = true) (h2 : p x = true) : (l.take (k + 1)).all p = true := by
  obtain ⟨hk, rfl⟩ := List.getElem?_eq_some_iff.1 h
  rw [List.take_succ_eq_append_getElem hk, List.all_append, h1]
  simp [h2]
theorem all_not {α : Type} {p : α → Bool} {l : List α} {k : Nat} {x : α} (h : l[k]? = some x) (h2 : p x = false) : l.all p = false := by
  rw [Bool.eq_false_iff]
  intro ha
  rw [List.all_eq_true] at ha
  have := ha x (List.mem_of_getElem? h)
  rw [h2] at this
  cases this
theorem St.keep {w w' : World} {d : Nat} {vn vl vs : Value} {f : Bool} {left : Int} {dn : Bool} (h : St w d vn vl vs f left dn) (he : w'.heap[d]? = w.heap[d]?) : St w' d vn vl vs f left dn := he.trans h
set_option maxRecDepth 20000 in
set_option maxHeartbeats 2000000 in
theorem fits_any {w : World} {d N cn : Nat} {A0 : Option Addr} {vl vs : Value} {f : Bool} {left : Int} {dn : Bool} (hst : St w d (.slice A0 N cn) vl vs f left dn)
    {M : Nat → Prop} {A : Option Addr} {n c : Nat} {ws : List Wr} (hW : Wrs w M A n c ws) (hM : ∀ b, M b → b < w.heap.size) :
    Calls Try.prog 58 #[.pointer (some ⟨d, 0, none⟩), .slice A n c] w fun e w' => e = .returned (.int .i64 (fitE N ws)) ∧ Below w.heap.size w w' := by
  have HS := Lib.hid hst
  have HW := Lib.hid hW
  have HM := Lib.hid hM
  have hlim := hW.lim
  have hcap := hW.cap
  unfold maxLen at hlim
  have hdl := hst.lt
  clear hst hW hM
  go_enter Try.func58, Try.ntmps58
  go_wp2_with fail
  go_loopw [11] (fun i wr => ∃ k : Nat, k ≤ n ∧ i = .int .i64 k ∧ Hid ((ws.take k).all (fun x => inR N x.1) = true) ∧ Hid (Below w.heap.size w wr)) (fun i _ => n - (intOf i).toNat)
  case atStart => exact ⟨0, Nat.zero_le _, rfl, by simp [Hid], Below.refl _ _⟩
  case round =>
    obtain ⟨k, hk, rfl, HA, HB⟩ := hrel
    by_cases hlt : k < n
    · obtain ⟨x, hx⟩ : ∃ x, ws[k]? = some x := ⟨_, List.getElem?_eq_getElem (by rw [HW.out.len]; exact hlt)⟩
      obtain ⟨b, off, rfl, hb, hc0, A', n', c', hc1, hB⟩ := (HW.out.keep (w' := wr) fun b hb => HB.out.block b (HM.out b hb)).get hx
      have HX := Lib.hid hx
      obtain ⟨y, l⟩ := x
      simp only at hc0 hB
      clear hx hB
      have hsw := HB.out.size
      cases hin : inR N y with
      | true =>
        have HA2 := Lib.hid (all_take HX.out HA.out hin)
        have HIN := Lib.hid hin
        clear hin
        go_wp2_with fail
        refine (has_any y (HS.out.keep (by rw [Below.heap_alloc _ _ _ (by omega)]; exact HB.out.block d hdl))).mono ?_
        rintro e w2 ⟨rfl, rfl⟩
        rw [HIN.out]
        go_wp2_with fail
        go_roundw
        case rel => exact ⟨k + 1, by omega, by go_num, HA2, HB.out.alloc (by omega) _⟩
        case measure => simp [intOf]; omega
      | false =>
        have HF : Hid (fitE N ws = 4) := by
          show _ = _
          unfold fitE
          rw [if_neg]
          rw [Bool.not_eq_true]
          exact all_not HX.out hin
        have HIN := Lib.hid hin
        clear hin
        go_wp2_with fail
        refine (has_any y (HS.out.keep (by rw [Below.heap_alloc _ _ _ (by omega)]; exact HB.out.block d hdl))).mono ?_
        rintro e w2 ⟨rfl, rfl⟩
        rw [HIN.out]
        go_wp2_with fail
        go_ret
        exact ⟨reti HF.out.symm, HB.out.alloc (by omega) _⟩
    · obtain rfl : k = n := by omega
      have HALL : Hid (ws.all (fun x => inR N x.1) = true) := by
        have := HA.out
        rw [List.take_of_length_le (by rw [HW.out.len]; omega)] at this
        exact this
      clear HA
      go_wp2_with fail
      rename_i w1 _
      go_loopw [23] (fun i wr => ∃ k' : Nat, k' ≤ k ∧ i = .int .i64 k' ∧ Hid ((ws.take k').all (fun x => x.2.length == 128) = true) ∧ Hid (Below w.heap.size w wr)) (fun i _ => k - (intOf i).toNat)
      case atStart => exact ⟨0, Nat.zero_le _, rfl, by simp [Hid], HB⟩
      case round =>
        clear HB
        obtain ⟨k', hk', rfl, HA, HB⟩ := hrel
        by_cases hlt : k' < k
        · obtain ⟨x, hx⟩ : ∃ x, ws[k']? = some x := ⟨_, List.getElem?_eq_getElem (by rw [HW.out.len]; exact hlt)⟩
          obtain ⟨b, off, rfl, hb, hc0, A', n', c', hc1, hB⟩ := (HW.out.keep (w' := wr) fun b hb => HB.out.block b (HM.out b hb)).get hx
          have HX := Lib.hid hx
          have hl2 : x.2.length = n' := hB.len
          have hsw := HB.out.size
          by_cases h128 : n' = 128
          · have HA2 := Lib.hid (all_take HX.out HA.out (by simp [hl2, h128]))
            subst h128
            clear hx hB hl2
            obtain ⟨y, l⟩ := x
            simp only at hc0
            go_wp2_with fail
            go_roundw
            case rel => exact ⟨k' + 1, by omega, by go_num, HA2, HB.out.alloc (by omega) _⟩
            case measure => simp [intOf]; omega
          · have HF : Hid (fitE N ws = 1) := by
              show _ = _
              unfold fitE
              rw [if_pos HALL.out, if_neg]
              rw [Bool.not_eq_true]
              exact all_not HX.out (by simp [hl2, h128])
            have g1 : ((n' : Int) != 128) = true := by rw [bne_iff_ne]; omega
            clear hx hB hl2
            obtain ⟨y, l⟩ := x
            simp only at hc0
            go_wp2_with fail
            go_ret
            exact ⟨reti HF.out.symm, HB.out.alloc (by omega) _⟩
        · obtain rfl : k' = k := by omega
          have HF : Hid (fitE N ws = 0) := by
            have := HA.out
            rw [List.take_of_length_le (by rw [HW.out.len]; omega)] at this
            show _ = _
            unfold fitE
            rw [if_pos HALL.out, if_pos this]
          go_wp2_with fail
          go_ret
          exact ⟨reti HF.out.symm, HB.out⟩
end Go.Proofs.Ytlhkkelpombbiaa
