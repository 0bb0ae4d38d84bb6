/- field.Open, walked. -/
import Derived.Test.YtfignanjelebaaaForm
import Derived.Test.YtfignanjelebaaaWrite
import Derived.WalkMore
import Derived.ScopeJumps
import Derived.Deep.RegionHeld3
import Derived.Deep.DrawnRows
import Derived.BigQuiet
import Derived.Deep.QuietTactic
namespace Go.Proofs.Ytfignanjelebaaa
open Go.RowKit
set_option linter.unusedVariables false
attribute [local go_sem ↓] Go.wp_at_zero Go.wp_at_succ
def OpenNo (w : World) (x : Int) (e : Ending) (w' : World) : Prop := e = .returned (.tuple #[.int .u8 0, .slice none 0 0, .int .i64 x]) ∧ Below w.heap.size w w'
/-- What holds where the run jumps to the label: the error lies in slot 4. -/
def Jmp (w : World) (x : Int) (a' : Act) (w' : World) : Prop := Below w.heap.size w w' ∧ ∃ u0 u1 u2 u3 u5 u6 u7 u8 u9 u10 u11 u12 u13 u14 u15 u16 u17 u18 u19 u20 u21 u22 u23 u24 u25 u26 u27 u28 u29 u30 u31 u32 u33 u34 u35 u36 u37 u38 u39 u40 u41 u42 : Value, a' = { tmps := #[u0, u1, u2, u3, .int .i64 x, u5, u6, u7, u8, u9, u10, u11, u12, u13, u14, u15, u16, u17, u18, u19, u20, u21, u22, u23, u24, u25, u26, u27, u28, u29, u30, u31, u32, u33, u34, u35, u36, u37, u38, u39, u40, u41, u42], defers := [] }
theorem below_drewN {B : Nat} {a w : World} (h : Below B a w) (n : Nat) : Below B a (w.drewN n) := ⟨h.os, h.tape, h.output, h.size, h.block⟩
theorem Jmp.mk {w w' : World} {x : Int} (hb : Below w.heap.size w w') {u0 u1 u2 u3 u5 u6 u7 u8 u9 u10 u11 u12 u13 u14 u15 u16 u17 u18 u19 u20 u21 u22 u23 u24 u25 u26 u27 u28 u29 u30 u31 u32 u33 u34 u35 u36 u37 u38 u39 u40 u41 u42 : Value} : Jmp w x { tmps := #[u0, u1, u2, u3, .int .i64 x, u5, u6, u7, u8, u9, u10, u11, u12, u13, u14, u15, u16, u17, u18, u19, u20, u21, u22, u23, u24, u25, u26, u27, u28, u29, u30, u31, u32, u33, u34, u35, u36, u37, u38, u39, u40, u41, u42], defers := [] } w' := ⟨hb, _, _, _, _, _, _, _, _, _, _, _, _, _, _, _, _, _, _, _, _, _, _, _, _, _, _, _, _, _, _, _, _, _, _, _, _, _, _, _, _, _, _, rfl⟩
set_option maxHeartbeats 1000000 in
theorem open_few (A : Option Addr) (n c : Nat) (w : World) (hn : n < 7) : Calls Try.prog 70 #[.slice A n c] w (OpenNo w 3) := by
  go_enter Try.func70, Try.ntmps70
  go_wp2
  refine wp_scope_jumps 0 (Jmp w 3) (fun _ _ => 0) rfl ?_ ?_
  · go_wp2
    go_step3
    exact ⟨rfl, Jmp.mk (Below.refl _ _)⟩
  · rintro a' w' ⟨hb, _, _, _, _, _, _, _, _, _, _, _, _, _, _, _, _, _, _, _, _, _, _, _, _, _, _, _, _, _, _, _, _, _, _, _, _, _, _, _, _, _, _, rfl⟩
    go_wp2
    simp only [Exit.jump]
    go_ret3
    exact ⟨rfl, hb⟩
theorem Bts.mid {w : World} {B n c : Nat} {A : Option Addr} {l : List UInt8} (h : Bts w B A n c l) (hn : 7 ≤ n) : Bts w B (A.map fun x => { block := x.block, off := x.off + 1 }) 2 (c - 1) ((l.drop 1).take 2) := by
  have h1 := (h.tail (s := 1) (by omega)).head (s := 2) (by omega)
  obtain ⟨b, off, rfl, _⟩ := h.at_ (by omega)
  rw [if_neg (by have := h.cap; omega)] at h1
  exact h1
set_option maxHeartbeats 1000000 in
theorem open_short (A : Option Addr) (n c B : Nat) (l : List UInt8) (w : World) (h : Bts w B A n c l) (hB : B ≤ w.heap.size) (hn : 7 ≤ n) (hx : n < 3 + big ((l.drop 1).take 2) + 4) : Calls Try.prog 70 #[.slice A n c] w (OpenNo w 3) := by
  have hcap := h.cap
  have hlim := h.lim
  unfold maxLen at hlim
  have H := Lib.hid h
  have HM := Lib.hid (h.mid hn)
  have hbig := big_lt ((l.drop 1).take 2)
  rw [HM.out.len] at hbig
  have hbig' : big ((l.drop 1).take 2) < 65536 := hbig
  clear h hbig
  generalize hq : (l.drop 1).take 2 = q at *
  have HQ := Lib.hid hq
  clear hq
  go_enter Try.func70, Try.ntmps70
  go_wp2
  refine wp_scope_jumps 0 (Jmp w 3) (fun _ _ => 0) rfl ?_ ?_
  · go_wp2_with fail
    refine (gather_any _ 2 _ B q w HM.out hB (by omega)).mono ?_
    rintro e w1 ⟨rfl, hb⟩
    go_wp2
    go_step3
    exact ⟨rfl, Jmp.mk hb⟩
  · rintro a' w' ⟨hb, _, _, _, _, _, _, _, _, _, _, _, _, _, _, _, _, _, _, _, _, _, _, _, _, _, _, _, _, _, _, _, _, _, _, _, _, _, _, _, _, _, _, rfl⟩
    go_wp2
    simp only [Exit.jump]
    go_ret3
    exact ⟨rfl, hb⟩
set_option maxHeartbeats 1000000 in
theorem open_long (A : Option Addr) (n c B : Nat) (l : List UInt8) (w : World) (h : Bts w B A n c l) (hB : B ≤ w.heap.size) (hn : 7 ≤ n) (hx : 3 + big ((l.drop 1).take 2) + 4 < n) : Calls Try.prog 70 #[.slice A n c] w (OpenNo w 2) := by
  have hcap := h.cap
  have hlim := h.lim
  unfold maxLen at hlim
  have H := Lib.hid h
  have HM := Lib.hid (h.mid hn)
  have hbig := big_lt ((l.drop 1).take 2)
  rw [HM.out.len] at hbig
  have hbig' : big ((l.drop 1).take 2) < 65536 := hbig
  clear h hbig
  generalize hq : (l.drop 1).take 2 = q at *
  have HQ := Lib.hid hq
  clear hq
  go_enter Try.func70, Try.ntmps70
  go_wp2
  refine wp_scope_jumps 0 (Jmp w 2) (fun _ _ => 0) rfl ?_ ?_
  · go_wp2_with fail
    refine (gather_any _ 2 _ B q w HM.out hB (by omega)).mono ?_
    rintro e w1 ⟨rfl, hb⟩
    generalize big q = x at *
    have hw1 : IntKind.i64.wrap (3 + (x : Int)) = 3 + (x : Int) := by rw [IntKind.wrap_i64]; omega
    have hw2 : IntKind.i64.wrap (3 + (x : Int) + 4) = 3 + (x : Int) + 4 := by rw [IntKind.wrap_i64]; omega
    have hgt : decide ((n : Int) > 3 + (x : Int) + 4) = true := by simp; omega
    go_wp2
    go_quiet (fail)
    go_wp2
    go_step3
    exact ⟨rfl, Jmp.mk (below_drewN hb _)⟩
  · rintro a' w' ⟨hb, _, _, _, _, _, _, _, _, _, _, _, _, _, _, _, _, _, _, _, _, _, _, _, _, _, _, _, _, _, _, _, _, _, _, _, _, _, _, _, _, _, _, rfl⟩
    go_wp2
    simp only [Exit.jump]
    go_ret3
    exact ⟨rfl, hb⟩
set_option maxHeartbeats 1000000 in
theorem open_wrong (A : Option Addr) (n c B : Nat) (l : List UInt8) (w : World) (h : Bts w B A n c l) (hB : B ≤ w.heap.size) (hn : 7 ≤ n) (hx : 3 + big ((l.drop 1).take 2) + 4 = n) (hs : big (l.drop (n - 4)) ≠ crc (l.take (n - 4))) : Calls Try.prog 70 #[.slice A n c] w (OpenNo w 2) := by
  have hcap := h.cap
  have hlim := h.lim
  unfold maxLen at hlim
  have HM := Lib.hid (h.mid hn)
  have hbig := big_lt ((l.drop 1).take 2)
  rw [HM.out.len] at hbig
  have hbig' : big ((l.drop 1).take 2) < 65536 := hbig
  obtain ⟨b, off, rfl, hbb, _⟩ := h.at_ (by omega)
  have HT := Lib.hid (h.tail (s := n - 4) (by omega))
  have HD := Lib.hid (h.head (s := n - 4) (by omega))
  have H := Lib.hid h
  clear h hbig
  generalize hq : (l.drop 1).take 2 = q at *
  have HQ := Lib.hid hq
  clear hq
  go_enter Try.func70, Try.ntmps70
  go_wp2
  refine wp_scope_jumps 0 (Jmp w 2) (fun _ _ => 0) rfl ?_ ?_
  · go_wp2_with fail
    refine (gather_any _ 2 _ B q w HM.out hB (by omega)).mono ?_
    rintro e w1 ⟨rfl, hb⟩
    generalize big q = x at *
    obtain rfl : n = 3 + x + 4 := by omega
    have en : 3 + x + 4 - 4 = 3 + x := by omega
    rw [en] at HT HD hs
    have HT1 : Hid (Bts w1 B (some ⟨b, off + (3 + x), none⟩) 4 (c - (3 + x)) (l.drop (3 + x))) := by
      have := HT.out
      rw [if_neg (by omega), show 3 + x + 4 - (3 + x) = 4 by omega, Option.map_some, Addr.add_lit] at this
      exact this.below (hb.mono hB)
    have HD1 := Lib.hid (HD.out.below (hb.mono hB))
    clear en HT HD
    have hcr := crc_lt (l.take (3 + x))
    have hz1 : B ≤ w1.heap.size := Nat.le_trans hB hb.size
    have hw1 : IntKind.i64.wrap (3 + (x : Int)) = 3 + (x : Int) := by rw [IntKind.wrap_i64]; omega
    have hw2 : IntKind.i64.wrap (3 + (x : Int) + 4) = 3 + (x : Int) + 4 := by rw [IntKind.wrap_i64]; omega
    have hw3 : IntKind.i64.wrap ((crc (l.take (3 + x)) : Nat) : Int) = ((crc (l.take (3 + x)) : Nat) : Int) := by rw [IntKind.wrap_i64]; omega
    have hgt : decide (((3 + x + 4 : Nat) : Int) > 3 + (x : Int) + 4) = false := by simp
    have i1 : (0 : Int) ≤ 3 + (x : Int) := by omega
    have i2 : 3 + (x : Int) ≤ (c : Int) := by omega
    have i3 : 3 + (x : Int) ≤ 3 + (x : Int) + 4 := by omega
    have i4 : 3 + (x : Int) + 4 ≤ (c : Int) := by omega
    have i5 : ¬ ((c : Int) = 3 + (x : Int)) := by omega
    have i6 : ¬ (c = 3 + x) := by omega
    have i7 : (3 + (x : Int)).toNat = 3 + x := by omega
    have hne : (((big (l.drop (3 + x)) : Nat) : Int) != ((crc (l.take (3 + x)) : Nat) : Int)) = true := by rw [bne_iff_ne]; omega
    go_wp2
    go_region_held3 (fun _ => True) (trivial) (first
      | (go_at_call 71; refine (gather_any _ 4 _ B (l.drop (3 + x)) _ (HT1.out.below (Below.refl _ w1).drew) hz1 (by omega)).mono ?_; rintro e w2 ⟨rfl, hb2⟩)
      | (go_at_call 64; refine (sum_any _ _ _ B (l.take (3 + x)) _ ((HD1.out.below (Below.refl _ w1).drew).below (hb2.mono hz1)) (by omega)).mono ?_; rintro e w3 ⟨rfl, rfl⟩))
    go_wp2
    go_step3
    exact ⟨rfl, Jmp.mk ((below_drewN hb 1).trans (hb2.mono (by simpa using hb.size)))⟩
  · rintro a' w' ⟨hb, _, _, _, _, _, _, _, _, _, _, _, _, _, _, _, _, _, _, _, _, _, _, _, _, _, _, _, _, _, _, _, _, _, _, _, _, _, _, _, _, _, _, rfl⟩
    go_wp2
    simp only [Exit.jump]
    go_ret3
    exact ⟨rfl, hb⟩
/-- The frame is whole: the tag, and what is in it. -/
def OpenYes (w : World) (t : UInt8) (l : List UInt8) (e : Ending) (w' : World) : Prop := ∃ v, e = .returned (.tuple #[.int .u8 (t.toNat : Int), v, .int .i64 0]) ∧ Mine w w' v l
set_option maxHeartbeats 1000000 in
theorem open_right (A : Option Addr) (n c B : Nat) (l : List UInt8) (w : World) (h : Bts w B A n c l) (hB : B ≤ w.heap.size) (hn : 7 ≤ n) (hx : 3 + big ((l.drop 1).take 2) + 4 = n) (hs : big (l.drop (n - 4)) = crc (l.take (n - 4))) : Calls Try.prog 70 #[.slice A n c] w (OpenYes w (l[0]?.getD 0) ((l.take (n - 4)).drop 3)) := by
  have hcap := h.cap
  have hlim := h.lim
  unfold maxLen at hlim
  have HM := Lib.hid (h.mid hn)
  have hbig := big_lt ((l.drop 1).take 2)
  rw [HM.out.len] at hbig
  have hbig' : big ((l.drop 1).take 2) < 65536 := hbig
  obtain ⟨b, off, rfl, hbb, _⟩ := h.at_ (by omega)
  have HT := Lib.hid (h.tail (s := n - 4) (by omega))
  have HD := Lib.hid (h.head (s := n - 4) (by omega))
  have H := Lib.hid h
  clear h hbig
  generalize hq : (l.drop 1).take 2 = q at *
  have HQ := Lib.hid hq
  clear hq
  go_enter Try.func70, Try.ntmps70
  go_wp2
  go_step3
  · go_wp2_with fail
    refine (gather_any _ 2 _ B q w HM.out hB (by omega)).mono ?_
    rintro e w1 ⟨rfl, hb⟩
    generalize big q = x at *
    obtain rfl : n = 3 + x + 4 := by omega
    have en : 3 + x + 4 - 4 = 3 + x := by omega
    rw [en] at HT HD hs
    have HT1 : Hid (Bts w1 B (some ⟨b, off + (3 + x), none⟩) 4 (c - (3 + x)) (l.drop (3 + x))) := by
      have := HT.out
      rw [if_neg (by omega), show 3 + x + 4 - (3 + x) = 4 by omega, Option.map_some, Addr.add_lit] at this
      exact this.below (hb.mono hB)
    have HD1 := Lib.hid (HD.out.below (hb.mono hB))
    clear en HT HD
    have hcr := crc_lt (l.take (3 + x))
    have hz1 : B ≤ w1.heap.size := Nat.le_trans hB hb.size
    have hw1 : IntKind.i64.wrap (3 + (x : Int)) = 3 + (x : Int) := by rw [IntKind.wrap_i64]; omega
    have hw2 : IntKind.i64.wrap (3 + (x : Int) + 4) = 3 + (x : Int) + 4 := by rw [IntKind.wrap_i64]; omega
    have hw3 : IntKind.i64.wrap ((crc (l.take (3 + x)) : Nat) : Int) = ((crc (l.take (3 + x)) : Nat) : Int) := by rw [IntKind.wrap_i64]; omega
    have hgt : decide (((3 + x + 4 : Nat) : Int) > 3 + (x : Int) + 4) = false := by simp
    have i1 : (0 : Int) ≤ 3 + (x : Int) := by omega
    have i2 : 3 + (x : Int) ≤ (c : Int) := by omega
    have i3 : 3 + (x : Int) ≤ 3 + (x : Int) + 4 := by omega
    have i4 : 3 + (x : Int) + 4 ≤ (c : Int) := by omega
    have i5 : ¬ ((c : Int) = 3 + (x : Int)) := by omega
    have i6 : ¬ (c = 3 + x) := by omega
    have i7 : (3 + (x : Int)).toNat = 3 + x := by omega
    have hne : (((big (l.drop (3 + x)) : Nat) : Int) != ((crc (l.take (3 + x)) : Nat) : Int)) = false := by rw [bne_eq_false_iff_eq]; omega
    have HS := Lib.hid hs
    clear hs
    go_wp2
    go_region_held3 (fun _ => True) (trivial) (first
      | (go_at_call 71; refine (gather_any _ 4 _ B (l.drop (3 + x)) _ (HT1.out.below (Below.refl _ w1).drew) hz1 (by omega)).mono ?_; rintro e w2 ⟨rfl, hb2⟩)
      | (go_at_call 64; refine (sum_any _ _ _ B (l.take (3 + x)) _ ((HD1.out.below (Below.refl _ w1).drew).below (hb2.mono hz1)) (by omega)).mono ?_; rintro e w3 ⟨rfl, rfl⟩))
    have hbw : Below w.heap.size w w2 := (below_drewN hb 1).trans (hb2.mono (by simpa using hb.size))
    have hcell : w2.cell? ⟨b, off, none⟩ = some (.int .u8 ((l[0]?.getD 0).toNat : Int)) := by
      obtain ⟨b', off', e, _, hc0⟩ := (H.out.below (hbw.mono hB)).cell (k := 0) (by omega)
      cases e
      exact hc0
    have HC1 : Hid (Bts w2 B (some ⟨b, off + 3, none⟩) x (c - 3) ((l.take (3 + x)).drop 3)) := by
      have := ((HD1.out.below (Below.refl _ w1).drew).below (hb2.mono hz1)).tail (s := 3) (by omega)
      rw [if_neg (by omega), show 3 + x - 3 = x by omega, Option.map_some, Addr.add_lit] at this
      exact this
    have hz2 : B ≤ w2.heap.size := Nat.le_trans hB hbw.size
    have i8 : (3 : Int) ≤ 3 + (x : Int) := by omega
    have i9 : ¬ (c = 3) := by omega
    have i10 : ¬ ((c : Int) = 3) := by omega
    have i11 : 3 + x - 3 = x := by omega
    have i12 : (0 : Int) < 3 + (x : Int) + 4 := by omega
    go_wp2
    go_region_held3 (fun w' => w'.cell? ⟨b, off, none⟩ = some (.int .u8 ((l[0]?.getD 0).toNat : Int))) (first | exact hcell | exact (hm.bel.cell (p := ⟨b, off, none⟩) (Nat.lt_of_lt_of_le hbb hz2)).trans hcell) (first
      | (go_at_call 79; refine (clone_any _ x _ B ((l.take (3 + x)).drop 3) _ (HC1.out.below (Below.refl _ w2).drew) hz2 (by omega)).mono ?_; rintro e w4 ⟨v, rfl, hm⟩))
    go_wp2
    rw [Exit.noGoto_ret]
    go_ret3
    refine ⟨v, rfl, ?_⟩
    rw [show 3 + x + 4 - 4 = 3 + x by omega]
    exact hm.from_ (below_drewN hbw 1)
end Go.Proofs.Ytfignanjelebaaa
