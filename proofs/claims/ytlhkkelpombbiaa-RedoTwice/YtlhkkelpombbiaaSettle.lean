/- redo.settle, logged, within, whole, places, walked. -/
import Derived.Test.YtlhkkelpombbiaaLasts
namespace Go.Proofs.Ytlhkkelpombbiaa
open Go.RowKit
set_option linter.unusedVariables false

theorem blk_fbts {w : World} {b : Nat} {t : TypeId} {x : List UInt8} (h : w.heap[b]? = some (.cells (bc x).toArray t (0, 0))) (hx : x.length = 128) : F.Bts w (b + 1) (some ⟨b, 0, none⟩) 128 128 x :=
  ⟨hx, Nat.le_refl _, by unfold maxLen; omega, (fun e => by cases e), fun _ => ⟨b, 0, rfl, by omega, fun j hj => by rw [Nat.zero_add, cell_of h, List.getElem?_toArray, bc_get (by omega)]⟩⟩
theorem Drv.sec {w : World} {d N : Nat} {O : List Nat} {s : DS} (h : Drv w d O N s) {k : Nat} (hk : k < N) : ∃ x, s.now[k]? = some x ∧ x.length = 128 := by
  obtain ⟨bn, cn, bl, cl, vs, rfl, h⟩ := h
  have hx := List.getElem?_eq_getElem (l := s.now) (i := k) (by rw [h.ok.now]; exact hk)
  exact ⟨_, hx, (h.now.all k _ hx).1⟩
theorem Drv.lsec {w : World} {d N : Nat} {O : List Nat} {s : DS} (h : Drv w d O N s) {k : Nat} (hk : k < N) : ∃ x, s.lasting[k]? = some x ∧ x.length = 128 := by
  obtain ⟨bn, cn, bl, cl, vs, rfl, h⟩ := h
  have hx := List.getElem?_eq_getElem (l := s.lasting) (i := k) (by rw [h.ok.lasting]; exact hk)
  exact ⟨_, hx, (h.las.all k _ hx).1⟩
theorem Drv.n64 {w : World} {d N : Nat} {O : List Nat} {s : DS} (h : Drv w d O N s) : 64 ≤ N ∧ N ≤ 1024 := by
  obtain ⟨bn, cn, bl, cl, vs, rfl, h⟩ := h
  exact ⟨h.n0, h.n1⟩
def LogP (w : World) (o : Option (List Int)) : Ending → World → Prop := HeadsP w o
set_option maxRecDepth 20000 in
theorem logged_down {w : World} {d : Nat} {O : List Nat} {N : Nat} {s : DS} (h : Drv w d O N s) (hd : s.down = true) :
    Calls Try.prog 43 #[.pointer (some ⟨d, 0, none⟩)] w fun e w' => e = .returned (.tuple #[.slice none 0 0, .int .i64 11]) ∧ w = w' := by
  have HG := Lib.hid (get_down 1 h hd)
  clear h hd
  go_enter Try.func43, Try.ntmps43
  go_wp2_with fail
  refine HG.out.mono ?_
  rintro e w1 ⟨rfl, rfl⟩
  go_wp2_with fail
  go_ret2
  exact ⟨rfl, rfl⟩
theorem HeadsP.from_ {w w1 w' : World} {o : Option (List Int)} {e : Ending} (h : HeadsP w1 o e w') (hb : Below w.heap.size w w1) : HeadsP w o e w' := by
  cases o with
  | none => exact ⟨h.1, hb.trans (h.2.mono hb.size)⟩
  | some ns =>
    obtain ⟨g, h1, h2, h3, h4, h5⟩ := h
    exact ⟨g, h1, h2, Nat.le_trans hb.size h3, h4, hb.trans (h5.mono hb.size)⟩
set_option maxRecDepth 20000 in
set_option maxHeartbeats 1000000 in
theorem logged_up {w : World} {d : Nat} {O : List Nat} {N : Nat} {s : DS} (h : Drv w d O N s) (hd : s.down = false) :
    Calls Try.prog 43 #[.pointer (some ⟨d, 0, none⟩)] w (HeadsP w (isHd (s.now[1]?.getD []))) := by
  obtain ⟨x, hx, hl⟩ := h.sec (k := 1) (by have := h.n64; omega)
  have HG := Lib.hid (get_ok 1 h hd hx)
  have HL := Lib.hid hl
  rw [hx, Option.getD_some]
  obtain ⟨o, ho⟩ : ∃ o, isHd x = o := ⟨_, rfl⟩
  rw [ho]
  have HO := Lib.hid ho
  clear h hd hx hl ho
  go_enter Try.func43, Try.ntmps43
  go_wp2_with fail
  refine HG.out.mono ?_
  rintro e w1 ⟨b, rfl, hb1, hb2, hb3⟩
  have HF := Lib.hid (blk_fbts hb2 HL.out)
  have HB := Lib.hid hb3
  have hlt : b + 1 ≤ w1.heap.size := (Array.getElem?_eq_some_iff.1 hb2).1
  clear hb2 hb3
  go_wp2_with fail
  refine (heads_any HF.out hlt).mono ?_
  intro e w2 hp
  rw [HO.out] at hp
  cases o with
  | none =>
    obtain ⟨rfl, h2⟩ := hp
    have HB2 := Lib.hid (HB.out.trans (h2.mono HB.out.size))
    clear h2
    go_wp2_with fail
    go_ret2
    exact ⟨rfl, HB2.out⟩
  | some ns =>
    obtain ⟨g, rfl, h2, h3, h4, h5⟩ := hp
    have HB2 := Lib.hid (HB.out.trans (h5.mono HB.out.size))
    have HI := Lib.hid h2
    have h3' := Nat.le_trans HB.out.size h3
    clear h2 h5
    go_wp2_with fail
    go_ret2
    exact ⟨g, rfl, HI.out, h3', h4, HB2.out⟩
set_option maxRecDepth 20000 in
set_option maxHeartbeats 1000000 in
theorem settle_any {w : World} {d : Nat} {O : List Nat} {N : Nat} {s : DS} (h : Drv w d O N s) :
    Calls Try.prog 60 #[.pointer (some ⟨d, 0, none⟩)] w fun e w' => e = .returned (.int .i64 s.settle.1) ∧ Did w d O N s.settle.2 w' := by
  cases hd : s.down with
  | true =>
    have HS : Hid (s.settle = (11, s)) := by show _ = _; simp [DS.settle, hd]
    have HG := Lib.hid (get_down 1 h hd)
    have H := Lib.hid h
    rw [HS.out]
    clear h hd
    go_enter Try.func60, Try.ntmps60
    go_wp2_with fail
    refine HG.out.mono ?_
    rintro e w1 ⟨rfl, rfl⟩
    go_wp2_with fail
    go_ret
    exact ⟨rfl, Did.mk H.out (Chg.refl _ _)⟩
  | false =>
    obtain ⟨x, hx, hl⟩ := h.sec (k := 1) (by have := h.n64; omega)
    obtain ⟨y, hy, hly⟩ := h.lsec (k := 1) (by have := h.n64; omega)
    have HG := Lib.hid (get_ok 1 h hd hx)
    have hn64 := h.n64
    have H := Lib.hid h
    have HL := Lib.hid hl
    have HLY := Lib.hid hly
    have HY := Lib.hid hy
    have HS : Hid (s.settle = if x = y then (0, s) else s.flush) := by
      show _ = _
      unfold DS.settle
      rw [hd, hx, hy]
      simp
    generalize s.settle = q at *
    obtain ⟨z, s0⟩ := q
    clear h hd hx hl hy hly
    go_enter Try.func60, Try.ntmps60
    go_wp2_with fail
    refine HG.out.mono ?_
    rintro e w1 ⟨b, rfl, hb1, hb2, hb3⟩
    have HF := Lib.hid (blk_fbts hb2 HL.out)
    have HB := Lib.hid hb3
    have hlt : b + 1 ≤ w1.heap.size := (Array.getElem?_eq_some_iff.1 hb2).1
    clear hb2 hb3
    go_wp2_with fail
    refine (image_any (H.out.below HB.out)).mono ?_
    rintro e w2 ⟨g, rfl, hg1, hg2, hg3⟩
    have HB2 := Lib.hid (HB.out.trans (hg3.mono HB.out.size))
    have HB3 := Lib.hid hg3
    obtain ⟨C, hC, hCs, hrow⟩ := hg2
    obtain ⟨bj, h1, h2, h3, h4⟩ := hrow 1 y (by omega) HY.out
    have hcell : w2.cell? ⟨g, 1, none⟩ = some (.slice (some ⟨bj, 0, none⟩) 128 128) := by rw [cell_of hC]; exact h1
    have HF2 := Lib.hid (blk_fbts h4 HLY.out)
    have HE := Lib.hid (equal_any (w := w2) (HF.out.below (HB3.out.mono hlt)) HF2.out)
    clear hC hCs hrow h1 h2 h3 h4 hg3
    by_cases hxy : x = y
    · have HD : Hid (decide (x = y) = true) := by show _ = _; simpa using hxy
      have hs := HS.out
      rw [if_pos hxy] at hs
      obtain ⟨rfl, rfl⟩ : z = 0 ∧ s0 = s := by simpa using hs
      clear hxy HS hs
      go_wp2_with fail
      refine HE.out.mono ?_
      rintro e w3 ⟨rfl, rfl⟩
      rw [HD.out]
      go_wp2_with fail
      go_ret
      exact ⟨rfl, Did.below H.out HB2.out⟩
    · have HD : Hid (decide (x = y) = false) := by show _ = _; simpa using hxy
      have HS2 : Hid (s.flush = (z, s0)) := by
        have hs := HS.out
        rw [if_neg hxy] at hs
        exact hs.symm
      clear hxy HS
      go_wp2_with fail
      refine HE.out.mono ?_
      rintro e w3 ⟨rfl, rfl⟩
      rw [HD.out]
      go_wp2_with fail
      refine (flush_any (H.out.below HB2.out)).mono ?_
      rintro e w3 ⟨rfl, hd⟩
      rw [HS2.out] at hd ⊢
      have HDD := Lib.hid (Did.from_ hd HB2.out)
      clear hd
      go_wp2_with fail
      go_ret
      exact ⟨rfl, HDD.out⟩
set_option maxRecDepth 20000 in
set_option maxHeartbeats 1000000 in
theorem within_any {w : World} {d : Nat} {O : List Nat} {N : Nat} {s : DS} {M : Nat → Prop} {A : Option Addr} {n c : Nat} {l : List Int} (h : Drv w d O N s) (hI : Ints w M A n c l) :
    Calls Try.prog 41 #[.pointer (some ⟨d, 0, none⟩), .slice A n c] w fun e w' => e = .returned (.bool (withinL N l)) ∧ w = w' := by
  have H := Lib.hid h
  have HI := Lib.hid hI
  have HL := Lib.hid hI.len
  have hcap := hI.cap
  have hlim := hI.lim
  unfold maxLen at hlim
  clear h hI
  go_enter Try.func41, Try.ntmps41
  go_wp2_with fail
  go_loop [9] (fun i => ∃ k : Nat, k ≤ n ∧ i = .int .i64 k ∧ Hid ((l.take k).all (fun n => decide (0 ≤ n) && decide (n < (N : Int))) = true)) (fun i => n - (intOf i).toNat)
  case atStart => exact ⟨0, Nat.zero_le _, rfl, by simp [Hid]⟩
  case round =>
    obtain ⟨k, hk, rfl, HN⟩ := hrel
    by_cases hlt : k < n
    · obtain ⟨b, off, rfl, hb, hc⟩ := HI.out.cell hlt
      have HX : Hid (l[k]? = some (l[k]?.getD 0)) := get_of HL.out hlt
      generalize l[k]?.getD 0 = x at *
      by_cases h0 : x < 0
      · have HG : Hid (withinL N l = false) := all_not HX.out (by simp; omega)
        go_wp2_with fail
        go_ret
        exact ⟨retb HG.out.symm, rfl⟩
      by_cases h1 : x < (N : Int)
      · have HN2 := Lib.hid (all_take HX.out HN.out (by simp; omega))
        go_wp2_with fail
        refine (sectorsD H.out).mono ?_
        rintro e w1 ⟨rfl, rfl⟩
        go_wp2_with fail
        go_round
        case rel => exact ⟨k + 1, by omega, by go_num, HN2⟩
        case measure => simp [intOf]; omega
      · have HG : Hid (withinL N l = false) := all_not HX.out (by simp; omega)
        go_wp2_with fail
        refine (sectorsD H.out).mono ?_
        rintro e w1 ⟨rfl, rfl⟩
        go_wp2_with fail
        go_ret
        exact ⟨retb HG.out.symm, rfl⟩
    · obtain rfl : k = n := by omega
      have HG : Hid (withinL N l = true) := by
        have := HN.out
        rw [List.take_of_length_le (by rw [HL.out]; omega)] at this
        exact this
      go_wp2_with fail
      go_ret
      exact ⟨retb HG.out.symm, rfl⟩
set_option maxRecDepth 20000 in
set_option maxHeartbeats 1000000 in
theorem whole_any {w : World} {M : Nat → Prop} {A : Option Addr} {n c : Nat} {ws : List Wr} (hW : Wrs w M A n c ws) (hM : ∀ b, M b → b < w.heap.size) :
    Calls Try.prog 42 #[.slice A n c] w fun e w' => e = .returned (.bool (wholeL ws)) ∧ Below w.heap.size w w' := by
  have HW := Lib.hid hW
  have HM := Lib.hid hM
  have hlim := hW.lim
  have hcap := hW.cap
  unfold maxLen at hlim
  clear hW hM
  go_enter Try.func42, Try.ntmps42
  go_wp2_with fail
  go_loopw [7] (fun i wr => ∃ k : Nat, k ≤ n ∧ i = .int .i64 k ∧ Hid ((ws.take k).all (fun x => x.2.length == 128) = true) ∧ Hid (Below w.heap.size w wr)) (fun i _ => n - (intOf i).toNat)
  case atStart => exact ⟨0, Nat.zero_le _, rfl, by simp [Hid], Below.refl _ _⟩
  case round =>
    obtain ⟨k, hk, rfl, HA, HB⟩ := hrel
    by_cases hlt : k < n
    · obtain ⟨x, hx⟩ : ∃ x, ws[k]? = some x := ⟨_, List.getElem?_eq_getElem (by rw [HW.out.len]; exact hlt)⟩
      obtain ⟨b, off, rfl, hb, hc0, A', n', c', hc1, hB⟩ := (HW.out.keep (w' := wr) fun b hb => HB.out.block b (HM.out b hb)).get hx
      have HX := Lib.hid hx
      have hl2 : x.2.length = n' := hB.len
      have hsw := HB.out.size
      by_cases h128 : n' = 128
      · have HA2 := Lib.hid (all_take HX.out HA.out (by simp [hl2, h128]))
        subst h128
        clear hx hB hl2
        obtain ⟨y, l⟩ := x
        simp only at hc0
        go_wp2_with fail
        go_roundw
        case rel => exact ⟨k + 1, by omega, by go_num, HA2, HB.out.alloc (by omega) _⟩
        case measure => simp [intOf]; omega
      · have HF : Hid (wholeL ws = false) := all_not HX.out (by simp [hl2, h128])
        have g1 : ((n' : Int) != 128) = true := by rw [bne_iff_ne]; omega
        clear hx hB hl2
        obtain ⟨y, l⟩ := x
        simp only at hc0
        go_wp2_with fail
        go_ret
        exact ⟨retb HF.out.symm, HB.out.alloc (by omega) _⟩
    · obtain rfl : k = n := by omega
      have HF : Hid (wholeL ws = true) := by
        have := HA.out
        rw [List.take_of_length_le (by rw [HW.out.len]; omega)] at this
        exact this
      go_wp2_with fail
      go_ret
      exact ⟨retb HF.out.symm, HB.out⟩
end Go.Proofs.Ytlhkkelpombbiaa
