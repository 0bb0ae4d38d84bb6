/- RedoLast, walked. -/
import Derived.Test.YtlhkkelpombbiaaList
namespace Go.Proofs.Ytlhkkelpombbiaa.redoLast
open Go.RowKit
set_option linter.unusedVariables false

def wsOf (ps : List (Int × Nat)) (D : List UInt8) : List Wr := ps.map fun p => (p.1, D)
theorem fit_lst {ps : List (Int × Nat)} {D : List UInt8} (h : Lst ps) (hD : D.length = 128) : fit 90 (wsOf ps D) = true := by
  have e : (wsOf ps D).map (·.1) = ps.map (·.1) := by simp [wsOf]
  unfold fit
  rw [e, Bool.and_eq_true, Bool.and_eq_true]
  refine ⟨good_iff.2 ⟨by simpa using h.len, ?_, h.nd⟩, ?_, ?_⟩
  · intro k hk
    simp only [List.mem_map] at hk
    obtain ⟨p, hp, rfl⟩ := hk
    have := h.bnd p hp
    rw [okn_iff]
    omega
  · unfold withinL
    rw [List.all_eq_true]
    intro k hk
    simp only [List.mem_map] at hk
    obtain ⟨p, hp, rfl⟩ := hk
    have := h.bnd p hp
    simp
    omega
  · unfold wholeL wsOf
    rw [List.all_eq_true]
    intro w hw
    simp only [List.mem_map] at hw
    obtain ⟨p, hp, rfl⟩ := hw
    simp [hD]
theorem lay_cst {D : List UInt8} {i : Nat} : ∀ {ps : List (Int × Nat)} (L : Secs2), (∀ p ∈ ps, 0 ≤ p.1) → i < L.length → (lay L (toW (wsOf ps D)))[i]? = if (i : Int) ∈ ps.map (·.1) then some D else L[i]? := by
  intro ps
  induction ps with
  | nil => intro L _ _; simp [wsOf, toW, lay]
  | cons p r ih =>
    intro L h0 hi
    have h1 := h0 p (by simp)
    have e : lay L (toW (wsOf (p :: r) D)) = lay (L.set p.1.toNat D) (toW (wsOf r D)) := rfl
    rw [e, ih _ (fun q hq => h0 q (by simp [hq])) (by rw [List.length_set]; exact hi)]
    by_cases hr : (i : Int) ∈ r.map (·.1)
    · rw [if_pos hr, if_pos (by rw [List.map_cons]; exact List.mem_cons_of_mem _ hr)]
    · rw [if_neg hr]
      by_cases hp : (i : Int) = p.1
      · have : p.1.toNat = i := by omega
        rw [this, List.getElem?_set_self hi, if_pos (by rw [List.map_cons, hp]; exact List.mem_cons_self)]
      · rw [List.getElem?_set_ne (by omega), if_neg]
        rw [List.map_cons, List.mem_cons]
        intro h
        rcases h with h | h
        · exact hp h
        · exact hr h
def dx (x : UInt8) : List UInt8 := zeros.set 3 x
theorem dx_len (x : UInt8) : (dx x).length = 128 := by unfold dx; rw [List.length_set, zeros_len]
theorem dx_3 (x : UInt8) : (dx x)[3]? = some x := by unfold dx; rw [List.getElem?_set_self (by rw [zeros_len]; omega)]
/-- The byte that there should be. -/
def wnt (ps qs : List (Int × Nat)) (x y : UInt8) (i : Int) : UInt8 := if i ∈ qs.map (·.1) then y else if i ∈ ps.map (·.1) then x else 0
theorem sec_at {ps qs : List (Int × Nat)} {x y : UInt8} (hp : Lst ps) (hq : Lst qs) {i : Nat} (h0 : 26 ≤ i) (h1 : i < 90) :
    ∃ z, (lay (lay (X0 90) (toW (wsOf ps (dx x)))) (toW (wsOf qs (dx y))))[i]? = some z ∧ z[3]? = some (wnt ps qs x y i) ∧ z.length = 128 := by
  have hl : (X0 90).length = 90 := by unfold X0; rw [List.length_set, List.length_replicate]
  rw [lay_cst _ (fun p h => by have := hq.bnd p h; omega) (by rw [lay_len]; omega), lay_cst _ (fun p h => by have := hp.bnd p h; omega) (by omega)]
  unfold wnt
  by_cases hqi : (i : Int) ∈ qs.map (·.1)
  · rw [if_pos hqi, if_pos hqi]
    exact ⟨_, rfl, dx_3 y, dx_len y⟩
  · rw [if_neg hqi, if_neg hqi]
    by_cases hpi : (i : Int) ∈ ps.map (·.1)
    · rw [if_pos hpi, if_pos hpi]
      exact ⟨_, rfl, dx_3 x, dx_len x⟩
    · rw [if_neg hpi, if_neg hpi]
      refine ⟨zeros, ?_, ?_, zeros_len⟩
      · unfold X0
        rw [List.getElem?_set_ne (by omega), List.getElem?_replicate, if_pos h1]
      · unfold zeros
        rw [List.getElem?_replicate, if_pos (by omega)]
theorem ite_take {ps : List (Int × Nat)} {m : Nat} {i : Int} {p : Int × Nat} (h : ps[m]? = some p) : i ∈ (ps.map (·.1)).take (m + 1) ↔ i ∈ (ps.map (·.1)).take m ∨ i = p.1 := by
  have hm : m < ps.length := (List.getElem?_eq_some_iff.1 h).1
  have := mem_take (l := ps.map (·.1)) (k := m) (v := i) (by rw [List.length_map]; exact hm)
  rw [List.getElem?_map, h] at this
  exact this
theorem Ons.at_ {w0 w : World} {d N : Nat} {O : List Nat} {s : DS} {X : Secs2} (h : Ons w0 w d O N s X) {i : Nat} (hi : i < N) (hl : ¬ inLog i) : s.now[i]? = X[i]? := by
  obtain ⟨L, hR, hw, hD⟩ := h.on
  rw [hR.now]
  exact hD.plain hi hl
def u8v (x : UInt8) : Value := .int .u8 (x.toNat : Int)
set_option maxRecDepth 100000 in
set_option maxHeartbeats 4000000 in
theorem walk (W : World) (A : Option Addr) (n c : Nat) (la : List UInt8) (hA : F.Bts W W.heap.size A n c la) (A' : Option Addr) (n' c' : Nat) (lb : List UInt8) (hB : F.Bts W W.heap.size A' n' c' lb) (x y : UInt8) :
    Calls Try.prog 7 #[.slice A n c, .slice A' n' c', .int .u8 (x.toNat : Int), .int .u8 (y.toNat : Int)] W fun e w' => e = .returned (.bool true) ∧ Below W.heap.size W w' := by
  have HA := Lib.hid hA
  have HB := Lib.hid hB
  clear hA hB
  go_enter Try.func7, Try.ntmps7
  go_wp2_with fail
  refine (begin_any 90 W (by omega) (by omega)).mono ?_
  rintro e w0 ⟨d, O, rfl, hO⟩
  have S0 := Lib.hid hO
  clear hO
  go_wp2_with fail
  refine (awake_any w0).mono ?_
  rintro e w1 ⟨rfl, hb1⟩
  have S1 := Lib.hid (Ons.below S0.out hb1)
  have HOL : Hid (∀ b ∈ O, b < w1.heap.size) := S1.out.sit.drv.lt
  clear hb1 S0
  go_wp2_with fail
  refine (list_any x ((HA.out.below S1.out.sit.bel).more S1.out.sit.bel.size)).mono ?_
  rintro e w2 ⟨vp, ps, rfl, hLp, hAp, hb2⟩
  have S2 := Lib.hid (Ons.below S1.out hb2)
  have LP := Lib.hid hLp
  obtain ⟨A1, c1, rfl, hW1⟩ := hAp.wrs (dx_len x)
  have W1 : Hid (Wrs w2 (fun q => w1.heap.size ≤ q ∧ q < w2.heap.size) A1 ps.length c1 (wsOf ps (dx x))) := hW1
  have hsz2 := hb2.size
  clear hLp hAp hb2 hW1
  go_wp2_with fail
  refine (list_any y ((HB.out.below S2.out.sit.bel).more S2.out.sit.bel.size)).mono ?_
  rintro e w3 ⟨vq, qs, rfl, hLq, hAq, hb3⟩
  have S3 := Lib.hid (Ons.below S2.out hb3)
  have LQ := Lib.hid hLq
  obtain ⟨A2, c2, rfl, hW2⟩ := hAq.wrs (dx_len y)
  have W2 : Hid (Wrs w3 (fun q => w2.heap.size ≤ q ∧ q < w3.heap.size) A2 qs.length c2 (wsOf qs (dx y))) := hW2
  have W1' := Lib.hid (W1.out.keep (w' := w3) fun q hq => hb3.block q hq.2)
  have hsz3 := hb3.size
  clear hLq hAq hb3 hW2 W1
  have hpl := LP.out.len
  have hql := LQ.out.len
  go_wp2_with fail
  refine (commitO S3.out W1'.out (fun q hq => ⟨by have := hq.2; omega, fun e => by have := HOL.out q e; have := hq.1; omega⟩) (fit_lst LP.out (dx_len x))).mono ?_
  rintro e w4 ⟨rfl, O4, s4, hs4, hc4, hn4⟩
  have S4 := Lib.hid hs4
  have W1'' := Lib.hid (W1'.out.keep (w' := w4) fun q hq => hc4.block q (by have := hq.2; omega) fun e => by have := HOL.out q e; have := hq.1; omega)
  have W2' := Lib.hid (W2.out.keep (w' := w4) fun q hq => hc4.block q hq.2 fun e => by have := HOL.out q e; have := hq.1; omega)
  have HO4 : Hid (∀ q ∈ O4, q < w1.heap.size ∨ w3.heap.size ≤ q) := fun q hq => by
    rcases hn4 q hq with h | h
    · exact .inl (HOL.out q h)
    · exact .inr h
  have hsz4 := hc4.size
  clear hs4 hc4 hn4 W1' W2
  go_wp2_with fail
  refine (commitO S4.out W2'.out (fun q hq => ⟨by have := hq.2; omega, fun e => by have := HO4.out q e; have := hq.1; have := hq.2; omega⟩) (fit_lst LQ.out (dx_len y))).mono ?_
  rintro e w5 ⟨rfl, O5, s5, hs5, hc5, hn5⟩
  have S5 := Lib.hid hs5
  have V1 := Lib.hid (W1''.out.keep (w' := w5) fun q hq => hc5.block q (by have := hq.2; omega) fun e => by have := HO4.out q e; have := hq.1; have := hq.2; omega)
  have V2 := Lib.hid (W2'.out.keep (w' := w5) fun q hq => hc5.block q (by have := hq.2; omega) fun e => by have := HO4.out q e; have := hq.1; have := hq.2; omega)
  have hsz5 := hc5.size
  clear hs5 hc5 hn5 W1'' W2' S3 S4
  have hl1 := V1.out.lim
  have hl2 := V2.out.lim
  have hc1' := V1.out.cap
  have hc2' := V2.out.cap
  unfold maxLen at hl1 hl2
  go_wp2_with fail
  go_loopw [12] (fun i wr => ∃ k : Nat, 26 ≤ k ∧ k ≤ 90 ∧ i = .int .i64 k ∧ Hid (Below w5.heap.size w5 wr)) (fun i _ => 90 - (intOf i).toNat)
  case atStart => exact ⟨26, Nat.le_refl _, by omega, rfl, Below.refl _ _⟩
  case round =>
    obtain ⟨k, hk0, hk, rfl, HBL⟩ := hrel
    by_cases hlt : k < 90
    · have V1r := Lib.hid (V1.out.keep (w' := wr) fun q hq => HBL.out.block q (by have := hq.2; omega))
      have V2r := Lib.hid (V2.out.keep (w' := wr) fun q hq => HBL.out.block q (by have := hq.2; omega))
      go_wp2_with fail
      go_loop [13, 14] (fun t i => ∃ m : Nat, m ≤ ps.length ∧ i = .int .i64 m ∧ t = u8v (if (k : Int) ∈ (ps.map (·.1)).take m then x else 0)) (fun _ i => ps.length - (intOf i).toNat)
      case atStart => exact ⟨0, Nat.zero_le _, rfl, by simp [u8v]⟩
      case round =>
        obtain ⟨m, hm, rfl, rfl⟩ := hrel
        by_cases hlt2 : m < ps.length
        · obtain ⟨p, hp⟩ : ∃ p, ps[m]? = some p := ⟨_, List.getElem?_eq_getElem hlt2⟩
          obtain ⟨g, o, rfl, hg, hc0, _⟩ := V1r.out.get (j := m) (x := (p.1, dx x)) (by unfold wsOf; rw [List.getElem?_map, hp]; rfl)
          have HT := Lib.hid (ite_take (i := (k : Int)) hp)
          generalize p.1 = pn at *
          clear hp
          generalize hu : u8v (if (k : Int) ∈ (ps.map (·.1)).take m then x else 0) = u at *
          have HU := Lib.hid hu
          clear hu
          by_cases he : pn = (k : Int)
          · have he' : (pn == (k : Int)) = true := by simpa using he
            have HV : Hid (u8v (if (k : Int) ∈ (ps.map (·.1)).take (m + 1) then x else 0) = .int .u8 (x.toNat : Int)) := by
              show _ = _
              rw [if_pos (HT.out.2 (.inr he.symm))]
              rfl
            clear he
            go_wp2_with fail
            go_round
            case rel => exact ⟨m + 1, by omega, by go_num, by rw [HV.out]⟩
            case measure => simp [intOf]; omega
          · have he' : (pn == (k : Int)) = false := by simpa using he
            have HV : Hid (u8v (if (k : Int) ∈ (ps.map (·.1)).take (m + 1) then x else 0) = u) := by
              show _ = _
              rw [← HU.out]
              by_cases hin : (k : Int) ∈ (ps.map (·.1)).take m
              · rw [if_pos hin, if_pos (HT.out.2 (.inl hin))]
              · rw [if_neg hin, if_neg]
                intro hh
                rcases HT.out.1 hh with h | h
                · exact hin h
                · exact he h.symm
            clear he
            go_wp2_with fail
            go_round
            case rel => exact ⟨m + 1, by omega, by go_num, by rw [HV.out]⟩
            case measure => simp [intOf]; omega
        · obtain rfl : m = ps.length := by omega
          have htk : (ps.map (·.1)).take ps.length = ps.map (·.1) := List.take_of_length_le (by rw [List.length_map]; omega)
          rw [htk]
          clear htk
          generalize hz : (if (k : Int) ∈ ps.map (·.1) then x else 0) = z at *
          have HZ := Lib.hid hz
          clear hz
          go_wp2_with fail
          go_loop [13, 15] (fun t i => ∃ m : Nat, m ≤ qs.length ∧ i = .int .i64 m ∧ t = u8v (if (k : Int) ∈ (qs.map (·.1)).take m then y else z)) (fun _ i => qs.length - (intOf i).toNat)
          case atStart => exact ⟨0, Nat.zero_le _, rfl, by simp⟩
          case round =>
            obtain ⟨m, hm, rfl, rfl⟩ := hrel
            by_cases hlt2 : m < qs.length
            · obtain ⟨p, hp⟩ : ∃ p, qs[m]? = some p := ⟨_, List.getElem?_eq_getElem hlt2⟩
              obtain ⟨g, o, rfl, hg, hc0, _⟩ := V2r.out.get (j := m) (x := (p.1, dx y)) (by unfold wsOf; rw [List.getElem?_map, hp]; rfl)
              have HT := Lib.hid (ite_take (i := (k : Int)) hp)
              generalize p.1 = pn at *
              clear hp
              generalize hu : u8v (if (k : Int) ∈ (qs.map (·.1)).take m then y else z) = u at *
              have HU := Lib.hid hu
              clear hu
              by_cases he : pn = (k : Int)
              · have he' : (pn == (k : Int)) = true := by simpa using he
                have HV : Hid (u8v (if (k : Int) ∈ (qs.map (·.1)).take (m + 1) then y else z) = .int .u8 (y.toNat : Int)) := by
                  show _ = _
                  rw [if_pos (HT.out.2 (.inr he.symm))]
                  rfl
                clear he
                go_wp2_with fail
                go_round
                case rel => exact ⟨m + 1, by omega, by go_num, by rw [HV.out]⟩
                case measure => simp [intOf]; omega
              · have he' : (pn == (k : Int)) = false := by simpa using he
                have HV : Hid (u8v (if (k : Int) ∈ (qs.map (·.1)).take (m + 1) then y else z) = u) := by
                  show _ = _
                  rw [← HU.out]
                  by_cases hin : (k : Int) ∈ (qs.map (·.1)).take m
                  · rw [if_pos hin, if_pos (HT.out.2 (.inl hin))]
                  · rw [if_neg hin, if_neg]
                    intro hh
                    rcases HT.out.1 hh with h | h
                    · exact hin h
                    · exact he h.symm
                clear he
                go_wp2_with fail
                go_round
                case rel => exact ⟨m + 1, by omega, by go_num, by rw [HV.out]⟩
                case measure => simp [intOf]; omega
            · obtain rfl : m = qs.length := by omega
              have htk : (qs.map (·.1)).take qs.length = qs.map (·.1) := List.take_of_length_le (by rw [List.length_map]; omega)
              rw [htk]
              have HWN : Hid ((if (k : Int) ∈ qs.map (·.1) then y else z) = wnt ps qs x y k) := by show _ = _; rw [← HZ.out]; rfl
              rw [HWN.out]
              clear htk
              obtain ⟨sec, hs1, hs2, hs3⟩ := sec_at (x := x) (y := y) LP.out LQ.out hk0 hlt
              have Sr := Ons.below S5.out HBL.out
              have HG := Lib.hid (get_ok k Sr.sit.drv Sr.on.down ((Ons.at_ Sr hlt (by unfold inLog; omega)).trans hs1))
              have H3 := Lib.hid hs2
              generalize wnt ps qs x y k = t at *
              unfold u8v
              clear hs1 hs2 Sr
              go_wp2_with fail
              refine HG.out.mono ?_
              rintro e w6 ⟨b6, rfl, hb61, hb62, hb63⟩
              have hcb := Own.cell (w := w6) ⟨80, hb62⟩ H3.out
              have HB6 := Lib.hid (HBL.out.trans (hb63.mono HBL.out.size))
              clear hb62 hb63
              go_wp2_with fail
              go_roundw
              case rel => exact ⟨k + 1, by omega, by omega, by go_num, HB6⟩
              case measure => simp [intOf]; omega
    · obtain rfl : k = 90 := by omega
      go_wp2_with fail
      go_ret
      exact ⟨rfl, S5.out.sit.bel.trans (HBL.out.mono S5.out.sit.bel.size)⟩
end Go.Proofs.Ytlhkkelpombbiaa.redoLast
