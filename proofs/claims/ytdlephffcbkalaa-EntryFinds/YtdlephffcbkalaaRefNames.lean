/- ref.Names, walked. -/
import Derived.Test.YtdlephffcbkalaaRefN
namespace Go.Proofs.Ytdlephffcbkalaa
open Go.RowKit
set_option linter.unusedVariables false

/-- What is in order so far. -/
structure Out (l : List Rw) (k : Nat) (out : List (List UInt8)) : Prop where
  srt : out.Pairwise (· ≤ ·)
  perm : out.Perm (nms (l.take k))
theorem Out.len {l : List Rw} {k : Nat} {out : List (List UInt8)} (h : Out l k out) : out.length ≤ k := by
  rw [h.perm.length_eq]
  refine Nat.le_trans (nms_len _) ?_
  rw [List.length_take]
  omega
theorem Out.skip {l : List Rw} {k : Nat} {out : List (List UInt8)} {x : Int} (h : Out l k out) (hr : l[k]? = some ([], x)) : Out l (k + 1) out :=
  ⟨h.srt, by rw [nms_take hr, if_pos rfl, List.append_nil]; exact h.perm⟩
theorem Out.step {l : List Rw} {k : Nat} {out : List (List UInt8)} {a : List UInt8} {x : Int} (h : Out l k out) (hr : l[k]? = some (a, x)) (ha : a ≠ []) : Out l (k + 1) (put out a) :=
  ⟨put_sorted h.srt a, by rw [nms_take hr, if_neg ha]; exact (put_perm out a).trans (h.perm.append_right _)⟩
theorem Strs.tail {w : World} {B n c g off : Nat} {l : List (List UInt8)} (h : Strs w B (some ⟨g, off, none⟩) n c l) {s : Nat} (hs : s ≤ n) : Strs w B (some ⟨g, off + s, none⟩) (n - s) (c - s) (l.drop s) := by
  have h1 := h.len
  have h2 := h.cap
  have h3 := h.lim
  refine ⟨by rw [List.length_drop]; omega, by omega, by omega, fun h0 => ?_⟩
  obtain ⟨b, o, e, hb, hc⟩ := h.at_ (by omega)
  cases e
  refine ⟨g, off + s, rfl, hb, fun j hj => ?_⟩
  rw [Nat.add_assoc, hc (s + j) (by omega), List.getElem?_drop]
theorem Strs.head {w : World} {B n c : Nat} {A : Option Addr} {l : List (List UInt8)} (h : Strs w B A n c l) {s : Nat} (hs : s ≤ n) : Strs w B A s c (l.take s) :=
  ⟨by rw [List.length_take, h.len]; omega, Nat.le_trans hs h.cap, h.lim, fun hn => by
    obtain ⟨b, off, e, hb, hc⟩ := h.at_ (by omega)
    refine ⟨b, off, e, hb, fun j hj => ?_⟩
    rw [hc j (by omega), List.getElem?_take, if_pos hj]⟩
theorem Strs.none_ {w : World} {B c : Nat} {A : Option Addr} (hc : c ≤ maxLen) : Strs w B A 0 c [] := ⟨rfl, Nat.zero_le _, hc, fun h => absurd h (by omega)⟩
def RNP (w : World) (l : List Rw) (e : Ending) (w' : World) : Prop := ∃ g n c out, e = .returned (.slice (some ⟨g, 0, none⟩) n c) ∧ out = srt (nms l) ∧ Strs w' w'.heap.size (some ⟨g, 0, none⟩) n c out ∧ Below w.heap.size w w'
set_option maxRecDepth 20000 in
set_option maxHeartbeats 4000000 in
theorem refNames_any {w : World} {B n c : Nat} {A : Option Addr} {l : List Rw} (h : Rws w B A n c l) (hB : B ≤ w.heap.size) (hn : n ≤ 1000) : Calls Try.prog 21 #[.slice A n c] w (RNP w l) := by
  have H := Lib.hid h
  have HL := Lib.hid h.len
  have hlim := h.lim
  have hcap := h.cap
  unfold maxLen at hlim
  clear h
  go_enter Try.func21, Try.ntmps21
  go_wp2_with fail
  go_loopw [3, 4] (fun u i wr => ∃ k g cp : Nat, ∃ m : Nat, ∃ out, k ≤ n ∧ m ≤ k ∧ m ≤ cp ∧ cp ≤ 9223372036854775807 ∧ i = .int .i64 k ∧ u = .slice (some ⟨g, 0, none⟩) m cp ∧ Hid (out.length = m) ∧ Hid (Out l k out) ∧ Hid (Strs wr wr.heap.size (some ⟨g, 0, none⟩) m cp out) ∧ Hid (Below w.heap.size w wr)) (fun _ i _ => n - (intOf i).toNat)
  case atStart => exact ⟨0, _, 0, 0, [], Nat.zero_le _, Nat.le_refl _, Nat.le_refl _, by omega, rfl, rfl, rfl, ⟨List.Pairwise.nil, by simp [nms]⟩, Strs.none_ (by decide), box_below _ _⟩
  case round =>
    obtain ⟨k, g, cp, m, out, hk, hmk, hmc, hcp, rfl, rfl, HM, HOT, HS, HB⟩ := hrel
    by_cases hlt : k < n
    · obtain ⟨b, off, r, rfl, hb, hr, hc0, hc1⟩ := (H.out.below (HB.out.mono hB)).get hlt
      obtain ⟨a, x⟩ := r
      have HR := Lib.hid hr
      dsimp only at hc0 hc1
      clear hr hc1
      by_cases ha : a = []
      · subst ha
        have h0 := nil_yes
        have h0' := nil_yes'
        have HO2 := Lib.hid (HOT.out.skip HR.out)
        go_wp2_with fail
        go_roundw
        case rel => exact ⟨k + 1, g, cp, m, out, by omega, by omega, hmc, hcp, by go_num, rfl, HM, HO2, HS, HB⟩
        case measure => simp [intOf]; omega
      · have h0 := nil_no ha
        have h0' := nil_no' ha
        have HO2 := Lib.hid (HOT.out.step HR.out ha)
        have HAT : ∀ q, Hid (atf out a (q + 1) = if (out[q]?.getD []) ≤ a then q + 1 else atf out a q) := fun q => rfl
        clear ha
        generalize wr = V0 at *
        go_wp2_with fail
        go_loopw [5, 6] (fun t j wq => ∃ q p : Nat, q ≤ m ∧ p ≤ q ∧ j = .int .i64 q ∧ t = .int .i64 p ∧ Hid (p = atf out a q) ∧ Hid (Below V0.heap.size V0 wq)) (fun _ j _ => m - (intOf j).toNat)
        case atStart => exact ⟨0, 0, Nat.zero_le _, Nat.le_refl _, rfl, rfl, rfl, Below.refl _ _⟩
        case round =>
          obtain ⟨q, p, hq, hp, rfl, rfl, HP, HD⟩ := hrel
          have HSQ := Lib.hid (HS.out.below HD.out)
          have hbr : b < V0.heap.size := Nat.lt_of_lt_of_le hb (Nat.le_trans hB HB.out.size)
          have hcq : wr.cell? ⟨b, off + k * 2, none⟩ = some (.string (bs a)) := (HD.out.cell hbr).trans hc0
          by_cases hlt2 : q < m
          · obtain ⟨g', off', e, hg', hcell⟩ := HSQ.out.cell hlt2
            cases e
            rw [Nat.zero_add] at hcell
            have HATq := HAT q
            generalize out[q]?.getD [] = y at *
            by_cases hle : y ≤ a
            · have HP2 : Hid (q + 1 = atf out a (q + 1)) := by show _ = _; rw [HATq.out, if_pos hle]
              by_cases hya : y = a
              · subst hya
                have h1 := less_no (List.lt_irrefl y)
                have h2 : ((bs y).toList == (bs y).toList) = true := by simp
                clear hle HATq
                go_wp2_with fail
                go_quiet (fail)
                go_wp2_with fail
                go_roundw
                case rel => exact ⟨q + 1, q + 1, by omega, by omega, by go_num, by go_num, HP2, below_drewN HD.out _⟩
                case measure => simp [intOf]; omega
              · have h1 := less_yes (Std.lt_of_le_of_ne hle hya)
                have h2 : ((bs y).toList == (bs a).toList) = false := by rw [bs_two]; simpa using hya
                clear hle hya HATq
                go_wp2_with fail
                go_quiet (fail)
                go_wp2_with fail
                go_roundw
                case rel => exact ⟨q + 1, q + 1, by omega, by omega, by go_num, by go_num, HP2, below_drewN HD.out _⟩
                case measure => simp [intOf]; omega
            · have HP2 : Hid (p = atf out a (q + 1)) := by show _ = _; rw [HATq.out, if_neg hle]; exact HP.out
              have h1 := less_no (a := y) (b := a) (fun h => hle (Std.le_of_lt h))
              have h2 : ((bs y).toList == (bs a).toList) = false := by rw [bs_two]; simp; intro e; exact hle (by rw [e]; exact List.le_refl _)
              have h2' : ¬ (bs y).toList = (bs a).toList := by rw [bs_list, bs_list]; intro e; exact hle (by rw [e]; exact List.le_refl _)
              clear hle HATq
              go_wp2_with fail
              go_quiet (fail)
              go_wp2_with fail
              go_roundw
              case rel => exact ⟨q + 1, p, by omega, by omega, by go_num, rfl, HP2, below_drewN HD.out _⟩
              case measure => simp [intOf]; omega
          · obtain rfl : m = q := by omega
            have hbw : b < wr.heap.size := Nat.lt_of_lt_of_le hbr HD.out.size
            have HSW : Hid (Strs wr wr.heap.size (some ⟨g, 0, none⟩) m cp out) := HSQ.out.more HD.out.size
            have HBW : Hid (Below w.heap.size w wr) := HB.out.trans (HD.out.mono HB.out.size)
            have HPT : Hid (out.take p ++ [a] ++ out.drop p = put out a) := by show _ = _; unfold put; rw [HM.out, ← HP.out]
            have HTL : Hid ((put out a).length = m + 1) := by show _ = _; rw [(put_perm out a).length_eq, List.length_append, HM.out]; rfl
            have hp1 := HSW.out.head (s := p) hp
            obtain ⟨aq, haq, hq1⟩ : ∃ aq : Addr, aq = (if cp = p then ⟨g, 0, none⟩ else ⟨g, p, none⟩) ∧ Strs wr wr.heap.size (some aq) (m - p) (cp - p) (out.drop p) := by
              refine ⟨_, rfl, ?_⟩
              by_cases hc : cp = p
              · have e1 : out.drop p = [] := List.drop_eq_nil_of_le (by rw [HM.out]; omega)
                rw [if_pos hc, e1, show m - p = 0 by omega]
                exact Strs.none_ (by unfold maxLen; omega)
              · rw [if_neg hc]
                have := HSW.out.tail (s := p) hp
                rwa [Nat.zero_add] at this
            have hll : (out.take p).length + (out.drop p).length ≤ 1000000 := by rw [← List.length_append, List.take_append_drop, HM.out]; omega
            obtain ⟨b1, b2, b3⟩ := box1 wr (Obj.cells #[.string (bs a)] 9)
            obtain ⟨b4, b5, b6⟩ := box1 (wr.alloc (Obj.cells #[.string (bs a)] 9)) (Obj.cells #[] 9)
            obtain ⟨b7, b8, b9⟩ := box1 wr (Obj.cells #[] 9)
            obtain ⟨b10, b11, b12⟩ := box1 (wr.alloc (Obj.cells #[] 9)) (Obj.cells #[.string (bs a)] 9)
            rw [b3] at b4 b5
            rw [b9] at b10 b11
            have bA : Below wr.heap.size wr ((wr.alloc (Obj.cells #[.string (bs a)] 9)).alloc (Obj.cells #[] 9)).drew := (b2.trans (b5.mono (by omega))).drew
            have bB : Below wr.heap.size wr ((wr.alloc (Obj.cells #[] 9)).alloc (Obj.cells #[.string (bs a)] 9)).drew := (b8.trans (b11.mono (by omega))).drew
            have bC : Below wr.heap.size wr (wr.alloc (Obj.cells #[] 9)).drew := b8.drew
            have bD : Below wr.heap.size wr (wr.alloc (Obj.cells #[.string (bs a)] 9)).drew := b2.drew
            obtain ⟨vA1, wA1, vA2, wA2, vA3, wA3, rA1, rA2, rA3, oA, eA1, eA2, eA3⟩ := chain_two (s := a) bA (n38 := wr.heap.size + 1) (n48 := wr.heap.size) b4 ((b5.block _ (by omega)).trans b1) (by omega) (by omega) hp1 hq1 hll
            obtain ⟨vB1, wB1, vB2, wB2, vB3, wB3, rB1, rB2, rB3, oB, eB1, eB2, eB3⟩ := chain_two (s := a) bB (n38 := wr.heap.size) (n48 := wr.heap.size + 1) ((b11.block _ (by omega)).trans b7) b10 (by omega) (by omega) hp1 hq1 hll
            obtain ⟨vC1, wC1, vC2, wC2, vC3, wC3, rC1, rC2, rC3, oC, eC1, eC2, eC3⟩ := chain_one (s := a) bC (n38 := wr.heap.size) b7 (by omega) hp1 hq1 hll
            rw [HPT.out] at oA oB oC
            obtain ⟨gA, cA, hvA, sA, lA, mA⟩ := own_out oA HTL.out
            obtain ⟨gB, cB, hvB, sB, lB, mB⟩ := own_out oB HTL.out
            obtain ⟨gC, cC, hvC, sC, lC, mC⟩ := own_out oC HTL.out
            subst hvA hvB hvC
            have RA1 := Lib.hid rA1
            have RA2 := Lib.hid rA2
            have RA3 := Lib.hid rA3
            have RB1 := Lib.hid rB1
            have RB2 := Lib.hid rB2
            have RB3 := Lib.hid rB3
            have RC1 := Lib.hid rC1
            have RC2 := Lib.hid rC2
            have RC3 := Lib.hid rC3
            have SA := Lib.hid sA
            have SB := Lib.hid sB
            have SC := Lib.hid sC
            have EA := Lib.hid (HBW.out.trans (eA3.mono HBW.out.size))
            have EB := Lib.hid (HBW.out.trans (eB3.mono HBW.out.size))
            have EC := Lib.hid (HBW.out.trans (eC3.mono HBW.out.size))
            have KS : ∀ V, Hid (Below wr.heap.size wr V → V.cell? ⟨b, off + k * 2, none⟩ = some (.string (bs a))) := fun V hV => (hV.cell (p := ⟨b, off + k * 2, none⟩) hbw).trans hcq
            have X0 : Hid (Below wr.heap.size wr wr.drew) := (Below.refl _ _).drew
            have X1 := Lib.hid bA
            have X2 := Lib.hid bB
            have X3 := Lib.hid bC
            have X4 := Lib.hid bD
            have X5 := Lib.hid eA1
            have X6 := Lib.hid eA2
            have X7 := Lib.hid eA3
            have X8 := Lib.hid eB1
            have X9 := Lib.hid eB2
            have X10 := Lib.hid eB3
            have X11 := Lib.hid eC1
            have X12 : Hid (Below wr.heap.size wr (wC1.alloc (Obj.cells #[.string (bs a)] 9))) := eC1.alloc eC1.size _
            have X13 := Lib.hid eC2
            have X14 := Lib.hid eC3
            clear rA1 rA2 rA3 rB1 rB2 rB3 rC1 rC2 rC3 sA sB sC eA1 eA2 eA3 eB1 eB2 eB3 eC1 eC2 eC3 oA oB oC bA bB bC bD b1 b2 b3 b4 b5 b6 b7 b8 b9 b10 b11 b12 hp1 hq1 hll hc0
            have hpi : (p : Int) ≤ (m : Int) := by omega
            have hpc : (p : Int) ≤ (cp : Int) := by omega
            by_cases hc : cp = p
            · rw [if_pos hc] at haq
              subst haq
              subst hc
              obtain rfl : m = cp := by omega
              rw [Nat.sub_self] at RA3 RB3 RC3
              go_wp2_with fail
              go_region_held3 (fun V => V.cell? ⟨b, off + k * 2, none⟩ = some (.string (bs a))) (first | (with_reducible exact (KS _).out X0.out) | (with_reducible exact (KS _).out X1.out) | (with_reducible exact (KS _).out X2.out) | (with_reducible exact (KS _).out X3.out) | (with_reducible exact (KS _).out X4.out) | (with_reducible exact (KS _).out X5.out) | (with_reducible exact (KS _).out X6.out) | (with_reducible exact (KS _).out X7.out) | (with_reducible exact (KS _).out X8.out) | (with_reducible exact (KS _).out X9.out) | (with_reducible exact (KS _).out X10.out) | (with_reducible exact (KS _).out X11.out) | (with_reducible exact (KS _).out X12.out) | (with_reducible exact (KS _).out X13.out) | (with_reducible exact (KS _).out X14.out)) (first
                | ((with_reducible refine at_world (((wr.alloc (Obj.cells #[.string (bs a)] 9)).alloc (Obj.cells #[] 9)).drew) ?_); refine step_append_run rfl _ _ 45 rfl _ _ _ _ rfl rfl RA1.out ?_)
                | ((with_reducible refine at_world (wA1) ?_); refine step_append_run rfl _ _ 45 rfl _ _ _ _ rfl rfl RA2.out ?_)
                | ((with_reducible refine at_world (wA2) ?_); refine step_append_run rfl _ _ 45 rfl _ _ _ _ rfl rfl RA3.out ?_)
                | ((with_reducible refine at_world (((wr.alloc (Obj.cells #[] 9)).alloc (Obj.cells #[.string (bs a)] 9)).drew) ?_); refine step_append_run rfl _ _ 45 rfl _ _ _ _ rfl rfl RB1.out ?_)
                | ((with_reducible refine at_world (wB1) ?_); refine step_append_run rfl _ _ 45 rfl _ _ _ _ rfl rfl RB2.out ?_)
                | ((with_reducible refine at_world (wB2) ?_); refine step_append_run rfl _ _ 45 rfl _ _ _ _ rfl rfl RB3.out ?_)
                | ((with_reducible refine at_world ((wr.alloc (Obj.cells #[] 9)).drew) ?_); refine step_append_run rfl _ _ 45 rfl _ _ _ _ rfl rfl RC1.out ?_)
                | ((with_reducible refine at_world ((wC1.alloc (Obj.cells #[.string (bs a)] 9))) ?_); refine step_append_run rfl _ _ 45 rfl _ _ _ _ rfl rfl RC2.out ?_)
                | ((with_reducible refine at_world (wC2) ?_); refine step_append_run rfl _ _ 45 rfl _ _ _ _ rfl rfl RC3.out ?_))
              · go_wp2_with fail
                go_roundw
                case rel => exact ⟨k + 1, gC, cC, m + 1, put out a, by omega, by omega, lC, mC, by go_num, rfl, HTL, HO2, SC, EC⟩
                case measure => simp [intOf]; omega
              · go_wp2_with fail
                go_roundw
                case rel => exact ⟨k + 1, gB, cB, m + 1, put out a, by omega, by omega, lB, mB, by go_num, rfl, HTL, HO2, SB, EB⟩
                case measure => simp [intOf]; omega
              · go_wp2_with fail
                go_roundw
                case rel => exact ⟨k + 1, gA, cA, m + 1, put out a, by omega, by omega, lA, mA, by go_num, rfl, HTL, HO2, SA, EA⟩
                case measure => simp [intOf]; omega
            · rw [if_neg hc] at haq
              subst haq
              go_wp2_with fail
              go_region_held3 (fun V => V.cell? ⟨b, off + k * 2, none⟩ = some (.string (bs a))) (first | (with_reducible exact (KS _).out X0.out) | (with_reducible exact (KS _).out X1.out) | (with_reducible exact (KS _).out X2.out) | (with_reducible exact (KS _).out X3.out) | (with_reducible exact (KS _).out X4.out) | (with_reducible exact (KS _).out X5.out) | (with_reducible exact (KS _).out X6.out) | (with_reducible exact (KS _).out X7.out) | (with_reducible exact (KS _).out X8.out) | (with_reducible exact (KS _).out X9.out) | (with_reducible exact (KS _).out X10.out) | (with_reducible exact (KS _).out X11.out) | (with_reducible exact (KS _).out X12.out) | (with_reducible exact (KS _).out X13.out) | (with_reducible exact (KS _).out X14.out)) (first
                | ((with_reducible refine at_world (((wr.alloc (Obj.cells #[.string (bs a)] 9)).alloc (Obj.cells #[] 9)).drew) ?_); refine step_append_run rfl _ _ 45 rfl _ _ _ _ rfl rfl RA1.out ?_)
                | ((with_reducible refine at_world (wA1) ?_); refine step_append_run rfl _ _ 45 rfl _ _ _ _ rfl rfl RA2.out ?_)
                | ((with_reducible refine at_world (wA2) ?_); refine step_append_run rfl _ _ 45 rfl _ _ _ _ rfl rfl RA3.out ?_)
                | ((with_reducible refine at_world (((wr.alloc (Obj.cells #[] 9)).alloc (Obj.cells #[.string (bs a)] 9)).drew) ?_); refine step_append_run rfl _ _ 45 rfl _ _ _ _ rfl rfl RB1.out ?_)
                | ((with_reducible refine at_world (wB1) ?_); refine step_append_run rfl _ _ 45 rfl _ _ _ _ rfl rfl RB2.out ?_)
                | ((with_reducible refine at_world (wB2) ?_); refine step_append_run rfl _ _ 45 rfl _ _ _ _ rfl rfl RB3.out ?_)
                | ((with_reducible refine at_world ((wr.alloc (Obj.cells #[] 9)).drew) ?_); refine step_append_run rfl _ _ 45 rfl _ _ _ _ rfl rfl RC1.out ?_)
                | ((with_reducible refine at_world ((wC1.alloc (Obj.cells #[.string (bs a)] 9))) ?_); refine step_append_run rfl _ _ 45 rfl _ _ _ _ rfl rfl RC2.out ?_)
                | ((with_reducible refine at_world (wC2) ?_); refine step_append_run rfl _ _ 45 rfl _ _ _ _ rfl rfl RC3.out ?_))
              · go_wp2_with fail
                go_roundw
                case rel => exact ⟨k + 1, gC, cC, m + 1, put out a, by omega, by omega, lC, mC, by go_num, rfl, HTL, HO2, SC, EC⟩
                case measure => simp [intOf]; omega
              · go_wp2_with fail
                go_roundw
                case rel => exact ⟨k + 1, gB, cB, m + 1, put out a, by omega, by omega, lB, mB, by go_num, rfl, HTL, HO2, SB, EB⟩
                case measure => simp [intOf]; omega
              · go_wp2_with fail
                go_roundw
                case rel => exact ⟨k + 1, gA, cA, m + 1, put out a, by omega, by omega, lA, mA, by go_num, rfl, HTL, HO2, SA, EA⟩
                case measure => simp [intOf]; omega
    · obtain rfl : k = n := by omega
      have HX : Hid (out = srt (nms l)) := by
        show _ = _
        refine sorted_srt HOT.out.srt ?_
        have := HOT.out.perm
        rwa [List.take_of_length_le (by rw [HL.out]; omega)] at this
      go_wp2_with fail
      go_ret
      exact ⟨g, m, cp, out, rfl, HX.out, HS.out, HB.out⟩
end Go.Proofs.Ytdlephffcbkalaa
