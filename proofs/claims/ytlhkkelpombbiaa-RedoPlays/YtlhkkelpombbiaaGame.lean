/- The law's put, same, walked: texts in memory. -/
import Derived.Test.YtlhkkelpombbiaaBegin
import Derived.Test.YtlhkkelpombbiaaRefs6
import Derived.StillTailTactics
namespace Go.Proofs.Ytlhkkelpombbiaa
open Go.RowKit
set_option linter.unusedVariables false

def tv (x : List UInt8) : Value := .string (sb x)
/-- The block g has room for c texts; the first are X. -/
def StrB (w : World) (g c : Nat) (X : Secs2) : Prop := ∃ C, w.heap[g]? = some (.cells C 9 (0, 0)) ∧ C.size = c ∧ X.length ≤ c ∧ c ≤ maxLen ∧ ∀ (j : Nat) (x : List UInt8), X[j]? = some x → C[j]? = some (tv x)
section
variable {w w' : World} {g c : Nat} {X : Secs2}
theorem StrB.lt (h : StrB w g c X) : g < w.heap.size := by obtain ⟨C, hC, _⟩ := h; exact (Array.getElem?_eq_some_iff.1 hC).1
theorem StrB.keep (h : StrB w g c X) (he : w'.heap[g]? = w.heap[g]?) : StrB w' g c X := by obtain ⟨C, hC, r⟩ := h; exact ⟨C, he.trans hC, r⟩
theorem StrB.below (h : StrB w g c X) (hb : Below w.heap.size w w') : StrB w' g c X := h.keep (hb.block g h.lt)
theorem StrB.cell (h : StrB w g c X) {j : Nat} {x : List UInt8} (hj : X[j]? = some x) : w.cell? ⟨g, j, none⟩ = some (tv x) := by
  obtain ⟨C, hC, _, _, _, ha⟩ := h
  rw [cell_of hC]; exact ha j x hj
theorem StrB.frozen (h : StrB w g c X) (j : Nat) : w.frozen? ⟨g, j, none⟩ = false := by obtain ⟨C, hC, _⟩ := h; exact frozen_of hC j
theorem StrB.set (h : StrB w g c X) {j : Nat} (hj : j < X.length) (y : List UInt8) : StrB (w.setCell ⟨g, j, none⟩ (tv y)) g c (X.set j y) := by
  obtain ⟨C, hC, hs, hl, hm, ha⟩ := h
  refine ⟨_, heap_setCell_at hC _, by simp [hs], by simpa using hl, hm, fun i x hi => ?_⟩
  by_cases e : i = j
  · subst e
    rw [List.getElem?_set_self hj] at hi
    cases hi
    rw [Array.getElem?_setIfInBounds_self_of_lt (by omega)]
  · rw [List.getElem?_set_ne (fun e' => e e'.symm)] at hi
    rw [Array.getElem?_setIfInBounds_ne (fun e' => e e'.symm)]
    exact ha i x hi
theorem StrB.room (h : StrB w g c X) : X.length ≤ c ∧ c ≤ maxLen := by obtain ⟨C, _, _, h1, h2, _⟩ := h; exact ⟨h1, h2⟩
end
theorem info9 : (Try.prog.info? 9).map (fun i => (i.zero, i.size, i.bytes)) = some (some (.string ⟨#[]⟩), 1, 16) := by kernel_rfl
theorem own_strb {w : World} {base : Nat} {v : Value} {X : Secs2} (h : w.ownsRow base 9 1 v X.length (X.map tv)) (h0 : 0 < X.length) : ∃ g c, v = .slice (some ⟨g, 0, none⟩) X.length c ∧ base ≤ g ∧ StrB w g c X := by
  rcases h.2 with ⟨rfl, e⟩ | ⟨g, cap, cur, rfl, hg, hh, hn, hm, hs, ht⟩
  · omega
  · refine ⟨g, cap, rfl, hg, cur, hh, by omega, hn, hm, fun j x hj => ?_⟩
    have hjl : j < X.length := (List.getElem?_eq_some_iff.1 hj).1
    have e : cur.toList[j]? = (X.map tv)[j]? := by
      rw [← ht, List.getElem?_take, if_pos (by omega)]
    rw [← Array.getElem?_toList, e, List.getElem?_map, hj]
    rfl
/-- append([]string{}, now..). -/
theorem appS_run {w : World} {g c : Nat} {X : Secs2} (h : StrB w g c X) (h0 : 0 < X.length) (hl : X.length ≤ 1024) :
    ∃ g' c' w', (Builtin.append_ #[39, 39] 39 #[.slice (some ⟨w.heap.size, 0, none⟩) 0 0, .slice (some ⟨g, 0, none⟩) X.length c]).run Try.prog (w.alloc (.cells #[] 9)) = .ok (.slice (some ⟨g', 0, none⟩) X.length c') w' ∧ w.heap.size ≤ g' ∧ StrB w' g' c' X ∧ Below w.heap.size w w' := by
  obtain ⟨i0, hi, hz0, hz1, hz2⟩ := info_parts info9
  have hbl := (Below.refl w.heap.size w).alloc (Nat.le_refl _) (.cells #[] 9)
  have ho := World.ownsRow_made (e := 9) (size := 1) (base := w.heap.size) w #[] 0 (Nat.le_refl _) (by decide) (by rfl)
  obtain ⟨v', w', hr, h2, h3, _⟩ := run_append_own (P := Try.prog) (w.alloc (.cells #[] 9)) w.heap.size 39 39 9 i0 _ 1 16 Try.underlying39 hi hz0 hz1 hz2 rfl (by decide) (.slice (some ⟨w.heap.size, 0, none⟩) 0 0) 0 [] ho ⟨g, 0, none⟩ X.length c (X.map tv) (by simp)
    (fun j u hu => by
      rw [Addr.add_lit, Nat.zero_add]
      rw [List.getElem?_map] at hu
      cases hx : X[j]? with
      | none => simp [hx] at hu
      | some x =>
        simp only [hx, Option.map_some, Option.some.injEq] at hu
        subst hu
        exact (h.below hbl).cell hx) (fun u hu => by obtain ⟨x, _, rfl⟩ := List.mem_map.1 hu; rfl) (by unfold maxLen; omega) (by omega) (by simp)
  have h2' : w'.ownsRow w.heap.size 9 1 v' X.length (X.map tv) := by simpa using h2
  obtain ⟨g', c', rfl, hg, hS⟩ := own_strb h2' h0
  exact ⟨g', c', w', hr, hg, hS, hbl.grown h3 (by simp) (fun j hj => (ho.lt j hj).1)⟩
theorem toW_take {ws : List Wr} {k : Nat} {x : Wr} (h : ws[k]? = some x) (X : Secs2) : lay X (toW (ws.take (k + 1))) = (lay X (toW (ws.take k))).set x.1.toNat x.2 := by
  obtain ⟨hk, rfl⟩ := List.getElem?_eq_some_iff.1 h
  rw [List.take_succ_eq_append_getElem hk, toW_app]
  exact lay_snoc _ _ _
/-- The drive's way to hold bytes, as a text. -/
theorem bts_str {w : World} {M : Nat → Prop} {A : Option Addr} {n c : Nat} {l : List UInt8} (h : Bts w M A n c l) (h0 : 0 < n) (W : World) (hW : ∀ b, M b → W.heap[b]? = w.heap[b]?) : (convert 23 9 (.slice A n c)).run Try.prog W = .ok (.string (sb l)) W := by
  obtain ⟨b, off, rfl, hb, hr⟩ := h.at_ h0
  obtain rfl := h.len
  refine run_convert_bytes_back W 23 9 5 ⟨b, off, none⟩ c l Try.underlying23 Try.underlying5 Try.underlying9 fun j hj => ?_
  rw [Addr.add_mid]
  have h1 := hr j _ (bc_get hj)
  rw [World.cell?_of_block (a := ⟨b, off + j, none⟩) (hW b hb), h1]
  simp [hj]
def PutP (w : World) (X : Secs2) (e : Ending) (w' : World) : Prop := ∃ g c, e = .returned (.slice (some ⟨g, 0, none⟩) X.length c) ∧ w.heap.size ≤ g ∧ StrB w' g c X ∧ Below w.heap.size w w'
set_option maxRecDepth 20000 in
set_option maxHeartbeats 1000000 in
theorem put6_any {w : World} {M : Nat → Prop} {A : Option Addr} {n c gx cx : Nat} {ws : List Wr} {X : Secs2} (hX : StrB w gx cx X) (hW : Wrs w M A n c ws) (hM : ∀ b, M b → b < w.heap.size) (h0 : 0 < X.length) (hl : X.length ≤ 1024) (hf : ∀ x ∈ ws, (∃ m : Nat, x.1 = m ∧ m < X.length) ∧ x.2.length = 128) :
    Calls Try.prog 17 #[.slice (some ⟨gx, 0, none⟩) X.length cx, .slice A n c] w (PutP w (lay X (toW ws))) := by
  have HW := Lib.hid hW
  have HM := Lib.hid hM
  have HF := Lib.hid hf
  have hlim := hW.lim
  have hcap := hW.cap
  unfold maxLen at hlim
  have hcx := hX.room
  obtain ⟨hcx1, hcx2⟩ := hcx
  unfold maxLen at hcx2
  obtain ⟨g, c', w1, hr, hg, hS, hB⟩ := appS_run hX h0 hl
  have HR := Lib.hid hr
  have HS := Lib.hid hS
  have HB := Lib.hid hB
  have HL : Hid ((lay X (toW ws)).length = X.length) := lay_len _ _
  obtain ⟨hc1, hc2⟩ := hS.room
  unfold maxLen at hc2
  generalize hN : X.length = N at *
  have HN := Lib.hid hN
  clear hW hM hf hr hS hB hN hX
  go_enter Try.func17, Try.ntmps17
  go_wp2_with (at_builtin; refine Lib.wpList_append_run _ rfl _ _ _ _ rfl _ _ rfl rfl _ _ HR.out ?_)
  go_loopw [6] (fun i wr => ∃ k : Nat, k ≤ n ∧ i = .int .i64 k ∧ Hid (StrB wr g c' (lay X (toW (ws.take k)))) ∧ Hid (Below w.heap.size w wr)) (fun i _ => n - (intOf i).toNat)
  case atStart => exact ⟨0, Nat.zero_le _, rfl, HS, HB⟩
  case round =>
    clear HS HB
    obtain ⟨k, hk, rfl, HS, HB⟩ := hrel
    by_cases hlt : k < n
    · obtain ⟨x, hx⟩ : ∃ x, ws[k]? = some x := ⟨_, List.getElem?_eq_getElem (by rw [HW.out.len]; exact hlt)⟩
      obtain ⟨b, off, rfl, hb, hc0, A', n', c2', hc1', hBt⟩ := (HW.out.keep (w' := wr) fun b hb => HB.out.block b (HM.out b hb)).get hx
      obtain ⟨⟨m, hm1, hm2⟩, hx2⟩ := HF.out x (List.mem_of_getElem? hx)
      have HT := Lib.hid (toW_take hx X)
      have hn' : n' = 128 := by rw [← hBt.len, hx2]
      subst hn'
      have hcv : ∀ W', W'.heap = wr.heap → (convert 23 9 (.slice A' 128 c2')).run Try.prog W' = .ok (.string (sb x.2)) W' := fun W' hW' => bts_str hBt (by omega) W' fun b _ => by rw [hW']
      have hlen : (lay X (toW (ws.take k))).length = N := by rw [lay_len, HN.out]
      obtain ⟨y0, hy0⟩ : ∃ y0, (lay X (toW (ws.take k)))[m]? = some y0 := ⟨_, List.getElem?_eq_getElem (by rw [hlen]; exact hm2)⟩
      have hv0 := HS.out.cell hy0
      clear hy0
      have hfr := HS.out.frozen m
      have HS2 := Lib.hid (HS.out.set (j := m) (by rw [hlen]; exact hm2) x.2)
      obtain ⟨x1, xl⟩ := x
      simp only at hc0 hm1 HT hcv HS2
      subst hm1
      rw [Int.toNat_natCast] at HT
      clear hx hBt hx2 hlen
      unfold tv at hv0
      have hcv1 := hcv wr.drew rfl
      have hcv2 := hcv { heap := wr.heap, tape := wr.tape, drawn := wr.drawn + 1, os := wr.os, output := wr.output } rfl
      have hk0 : (0 : Int) ≤ (k : Int) := by omega
      have hk1 : (k : Int) < (n : Int) := by omega
      have hm0 : (0 : Int) ≤ (m : Int) := by omega
      have hmN : (m : Int) < (N : Int) := by omega
      clear hcv
      go_wp2_with fail
      go_still_tail 13, (by kernel_rfl)
      change wpList _ _ _ _ _ wr.drew
      have hv0' : wr.drew.cell? ⟨g, m, none⟩ = some (.string (sb y0)) := hv0
      have hfr' : wr.drew.frozen? ⟨g, m, none⟩ = false := hfr
      go_wp2_with fail
      refine ⟨⟨k + 1, by omega, by go_num, ?_, (HB.out.setCell (p := ⟨g, m, none⟩) hg _).drew⟩, by simp [intOf]; omega⟩
      show StrB _ _ _ _
      rw [HT.out]
      exact HS2.out.keep rfl
    · obtain rfl : k = n := by omega
      have htk : ws.take k = ws := List.take_of_length_le (by rw [HW.out.len]; omega)
      rw [htk] at HS
      go_wp2_with fail
      go_ret
      exact ⟨g, c', by rw [HL.out]; rfl, hg, HS.out, HB.out⟩
/-- The law's game in memory. -/
def GameAt (w : World) (gb d : Nat) (vn vm : Value) (off : Bool) : Prop := w.heap[gb]? = some (.cells #[.pointer (some ⟨d, 0, none⟩), vn, vm, .bool off] 41 (0, 0))
section
variable {w w' : World} {gb d : Nat} {vn vm : Value} {off : Bool}
theorem GameAt.lt (h : GameAt w gb d vn vm off) : gb < w.heap.size := (Array.getElem?_eq_some_iff.1 h).1
theorem GameAt.keep (h : GameAt w gb d vn vm off) (he : w'.heap[gb]? = w.heap[gb]?) : GameAt w' gb d vn vm off := he.trans h
theorem GameAt.below (h : GameAt w gb d vn vm off) (hb : Below w.heap.size w w') : GameAt w' gb d vn vm off := h.keep (hb.block gb h.lt)
theorem GameAt.c0 (h : GameAt w gb d vn vm off) : w.cell? ⟨gb, 0, none⟩ = some (.pointer (some ⟨d, 0, none⟩)) := cell_of h 0
theorem GameAt.c1 (h : GameAt w gb d vn vm off) : w.cell? ⟨gb, 1, none⟩ = some vn := cell_of h 1
theorem GameAt.c2 (h : GameAt w gb d vn vm off) : w.cell? ⟨gb, 2, none⟩ = some vm := cell_of h 2
theorem GameAt.c3 (h : GameAt w gb d vn vm off) : w.cell? ⟨gb, 3, none⟩ = some (.bool off) := cell_of h 3
theorem GameAt.fr (h : GameAt w gb d vn vm off) (j : Nat) : w.frozen? ⟨gb, j, none⟩ = false := frozen_of h j
end
def SameX (N : Nat) (s : DS) (X : Secs2) : Prop := ∀ i : Nat, i < N → ¬ inLog i → s.now[i]? = X[i]?
instance (N : Nat) (s : DS) (X : Secs2) : Decidable (SameX N s X) := by unfold SameX; infer_instance
theorem sb_ne {a b : List UInt8} (h : a ≠ b) : ((sb a).toList != (sb b).toList) = true := by unfold bne; rw [sb_list]; simp [h]
theorem sb_eq_not (a : List UInt8) : ((sb a).toList != (sb a).toList) = false := by unfold bne; rw [sb_list]; simp
set_option maxRecDepth 20000 in
set_option maxHeartbeats 2000000 in
theorem same_any {w : World} {gb d : Nat} {vn vm : Value} {off : Bool} {O : List Nat} {N : Nat} {s : DS} {gx cx : Nat} {X : Secs2} (h : Drv w d O N s) (hd : s.down = false) (hG : GameAt w gb d vn vm off) (hX : StrB w gx cx X) (hl : X.length = N) :
    Calls Try.prog 49 #[.pointer (some ⟨gb, 0, none⟩), .slice (some ⟨gx, 0, none⟩) N cx] w fun e w' => e = .returned (.bool (decide (SameX N s X))) ∧ Below w.heap.size w w' := by
  have H := Lib.hid h
  have HD := Lib.hid hd
  have HG := Lib.hid hG
  have HX := Lib.hid hX
  have HL := Lib.hid hl
  obtain ⟨hc1, hc2⟩ := hX.room
  unfold maxLen at hc2
  obtain ⟨hn0, hn1⟩ := h.n64
  obtain ⟨q, hq⟩ : ∃ q, decide (SameX N s X) = q := ⟨_, rfl⟩
  rw [hq]
  have HQ := Lib.hid hq
  clear h hd hG hX hl hq
  go_enter Try.func49, Try.ntmps49
  go_wp2_with fail
  go_loopw [5] (fun i wr => ∃ k : Nat, k ≤ N ∧ i = .int .i64 k ∧ Hid (∀ j : Nat, j < k → ¬ inLog j → s.now[j]? = X[j]?) ∧ Hid (Below w.heap.size w wr)) (fun i _ => N - (intOf i).toNat)
  case atStart => exact ⟨0, Nat.zero_le _, rfl, fun j hj => absurd hj (by omega), Below.refl _ _⟩
  case round =>
    obtain ⟨k, hk, rfl, HS, HB⟩ := hrel
    by_cases hlt : k < N
    · have hc0 := (HG.out.below HB.out).c0
      obtain ⟨x, hx, hxl⟩ := (H.out.below HB.out).sec hlt
      have HGT := Lib.hid (get_ok k (H.out.below HB.out) HD.out hx)
      have HSX := Lib.hid hx
      have HXL := Lib.hid hxl
      obtain ⟨y, hy⟩ : ∃ y, X[k]? = some y := ⟨_, List.getElem?_eq_getElem (by rw [HL.out]; exact hlt)⟩
      have HSY := Lib.hid hy
      clear hx hxl hy
      go_wp2_with fail
      refine HGT.out.mono ?_
      rintro e w2 ⟨b, rfl, hb1, hb2, hb3⟩
      have HB2 := Lib.hid (HB.out.trans (hb3.mono HB.out.size))
      have hcy := (HX.out.below HB2.out).cell HSY.out
      unfold tv at hcy
      have hcv := fun n => Own.str (w := w2.drewN n) ⟨80, hb2⟩ HXL.out
      have hcv1 : ∀ n, (convert 23 9 (.slice (some ⟨b, 0, none⟩) 128 128)).run Try.prog (w2.drewN n) = .ok (.string (sb x)) (w2.drewN n) := hcv
      have hcv2 : (convert 23 9 (.slice (some ⟨b, 0, none⟩) 128 128)).run Try.prog w2.drew = .ok (.string (sb x)) w2.drew := Own.str (w := w2.drew) ⟨80, hb2⟩ HXL.out
      have hk0 : (0 : Int) ≤ (k : Int) := by omega
      have hkN : (k : Int) < (N : Int) := by omega
      clear hcv hb2 hb3 hc0
      by_cases hxy : x = y
      · subst hxy
        have hne := sb_eq_not x
        have HS2 : Hid (∀ j : Nat, j < k + 1 → ¬ inLog j → s.now[j]? = X[j]?) := fun j hj hl => by
          by_cases e : j = k
          · subst e; rw [HSX.out, HSY.out]
          · exact HS.out j (by omega) hl
        go_wp2_with fail
        go_quiet (fail)
        go_wp2_with fail
        go_roundw
        case rel => exact ⟨k + 1, by omega, by go_num, HS2, below_drewN HB2.out _⟩
        case measure => simp [intOf]; omega
      · have hne := sb_ne hxy
        have hne2 : ((sb x).toList == (sb y).toList) = false := by rw [sb_list]; simp [hxy]
        have HXY := Lib.hid hxy
        clear hxy
        by_cases h1 : (k : Int) < 1
        · obtain rfl : q = false := by
            rw [← HQ.out, decide_eq_false_iff_not]
            intro hS
            have := hS k hlt (by unfold inLog; omega)
            rw [HSX.out, HSY.out] at this
            exact HXY.out (Option.some.inj this)
          have h1' : decide ((k : Int) < 1) = true := by simpa using h1
          clear h1
          go_wp2_with fail
          go_quiet (fail)
          go_wp2_with fail
          go_ret
          exact ⟨rfl, below_drewN HB2.out _⟩
        · have h1' : decide ((k : Int) < 1) = false := by simpa using h1
          by_cases h2 : (26 : Int) ≤ (k : Int)
          · obtain rfl : q = false := by
              rw [← HQ.out, decide_eq_false_iff_not]
              intro hS
              have := hS k hlt (by unfold inLog; omega)
              rw [HSX.out, HSY.out] at this
              exact HXY.out (Option.some.inj this)
            have h2' : decide ((26 : Int) ≤ (k : Int)) = true := by simpa using h2
            clear h1 h2
            go_wp2_with fail
            go_quiet (fail)
            go_wp2_with fail
            go_ret
            exact ⟨rfl, below_drewN HB2.out _⟩
          · have h2' : decide ((26 : Int) ≤ (k : Int)) = false := by simpa using h2
            have HS2 : Hid (∀ j : Nat, j < k + 1 → ¬ inLog j → s.now[j]? = X[j]?) := fun j hj hl => by
              by_cases e : j = k
              · subst e; exact absurd ⟨by omega, by omega⟩ hl
              · exact HS.out j (by omega) hl
            clear h1 h2
            go_wp2_with fail
            go_quiet (fail)
            go_wp2_with fail
            go_roundw
            case rel => exact ⟨k + 1, by omega, by go_num, HS2, below_drewN HB2.out _⟩
            case measure => simp [intOf]; omega
    · obtain rfl : k = N := by omega
      obtain rfl : q = true := by
        rw [← HQ.out, decide_eq_true_eq]
        exact fun i h1 h2 => HS.out i h1 h2
      go_wp2_with fail
      go_ret
      exact ⟨rfl, HB.out⟩
end Go.Proofs.Ytlhkkelpombbiaa
