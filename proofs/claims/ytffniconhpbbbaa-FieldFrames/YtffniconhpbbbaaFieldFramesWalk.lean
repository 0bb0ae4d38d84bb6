/- FieldFrames, walked. -/
import Derived.Test.YtffniconhpbbbaaAwake
import Derived.Test.YtffniconhpbbbaaRefsB
namespace Go.Proofs.Ytffniconhpbbbaa.fieldFrames
open Go.RowKit
set_option linter.unusedVariables false
attribute [local go_sem ↓] Go.wp_at_zero Go.wp_at_succ
theorem big2_lt (a b : UInt8) : big [a, b] < 65536 := by
  have := a.toNat_lt
  have := b.toNat_lt
  simp only [big]
  omega
def RefNo (w : World) (x : Int) (e : Ending) (w' : World) : Prop := e = .returned (.tuple #[.int .u8 0, .string ⟨#[]⟩, .int .i64 x]) ∧ Below w.heap.size w w'
theorem str_cut (l : List UInt8) (i j : Nat) : (ByteArray.mk l.toArray).extract i j = ByteArray.mk ((l.drop i).take (j - i)).toArray := by
  apply ByteArray.ext
  simp
set_option maxHeartbeats 1000000 in
theorem refOpen_few (l : List UInt8) (w : World) (hl : l.length < 7) : Calls Try.prog 25 #[.string ⟨l.toArray⟩] w (RefNo w 3) := by
  have hsz : (ByteArray.mk l.toArray).size = l.length := rfl
  go_enter Try.func25, Try.ntmps25
  go_wp2
  go_ret3
  exact ⟨rfl, Below.refl _ _⟩
theorem sub_run (l : List UInt8) (i j : Nat) (hij : i ≤ j) (hj : j ≤ l.length) (W : World) : (Instr.slice 9 (.string ⟨l.toArray⟩) (some (.int .i64 (i : Int))) (some (.int .i64 (j : Int))) none).run Try.prog W = .ok (.string ⟨((l.drop i).take (j - i)).toArray⟩) W := by
  have hsz : (ByteArray.mk l.toArray).size = l.length := rfl
  rw [run_slice_string W 9 _ _ _ _ _ Try.underlying9 (by omega) (by omega) (by rw [hsz]; omega), Int.toNat_natCast, Int.toNat_natCast, str_cut]
theorem sub_one (t a b : UInt8) (r : List UInt8) (W : World) : (Instr.slice 9 (.string ⟨(t :: a :: b :: r).toArray⟩) (some (.int .i64 1)) (some (.int .i64 3)) none).run Try.prog W = .ok (.string ⟨#[a, b]⟩) W :=
  sub_run (t :: a :: b :: r) 1 3 (by omega) (by simp) W
theorem sub_mid (t a b : UInt8) (r : List UInt8) (n : Nat) (hn : n ≤ r.length) (W : World) : (Instr.slice 9 (.string ⟨(t :: a :: b :: r).toArray⟩) (some (.int .i64 3)) (some (.int .i64 (3 + (n : Int)))) none).run Try.prog W = .ok (.string ⟨(r.take n).toArray⟩) W := by
  have h := sub_run (t :: a :: b :: r) 3 (3 + n) (by omega) (by simp; omega) W
  have e1 : ((3 + n : Nat) : Int) = 3 + (n : Int) := by omega
  rw [e1, show 3 + n - 3 = n by omega] at h
  exact h
set_option maxHeartbeats 1000000 in
theorem refOpen_short (t a b : UInt8) (r : List UInt8) (w : World) (h4 : 4 ≤ r.length) (hl : r.length < big [a, b] + 4) (hr : r.length ≤ 140737488351232) : Calls Try.prog 25 #[.string ⟨(t :: a :: b :: r).toArray⟩] w (RefNo w 3) := by
  have hsz : (ByteArray.mk (t :: a :: b :: r).toArray).size = r.length + 3 := rfl
  have hcut := sub_one t a b r
  have hbig' := big2_lt a b
  go_enter Try.func25, Try.ntmps25
  go_wp2_with fail
  refine (refBig_any [a, b] w (by simp)).mono ?_
  rintro e w1 ⟨rfl, rfl⟩
  generalize big [a, b] = n at *
  go_wp2
  go_ret3
  exact ⟨rfl, Below.refl _ _⟩
set_option maxHeartbeats 1000000 in
theorem refOpen_no (t a b : UInt8) (r : List UInt8) (w : World) (hl : big [a, b] + 4 ≤ r.length) (hr : r.length ≤ 140737488351232) (hf : fram t (r.take (big [a, b])) ≠ t :: a :: b :: r) : Calls Try.prog 25 #[.string ⟨(t :: a :: b :: r).toArray⟩] w (RefNo w 2) := by
  have hsz : (ByteArray.mk (t :: a :: b :: r).toArray).size = r.length + 3 := rfl
  have hcut := sub_one t a b r
  have hcut2 := sub_mid t a b r (big [a, b]) (by omega)
  have hbig' := big2_lt a b
  have hne : (fram t (r.take (big [a, b])) == t :: a :: b :: r) = false := by rw [beq_eq_false_iff_ne]; exact hf
  have hlm : (r.take (big [a, b])).length ≤ 65535 := by rw [List.length_take]; omega
  clear hf
  go_enter Try.func25, Try.ntmps25
  go_wp2_with fail
  refine (refBig_any [a, b] w (by simp)).mono ?_
  rintro e w1 ⟨rfl, rfl⟩
  generalize big [a, b] = n at *
  have hw1 : IntKind.i64.wrap (3 + (n : Int)) = 3 + (n : Int) := by rw [IntKind.wrap_i64]; omega
  go_wp2
  go_region_held3 (fun _ => True) (trivial) (first
    | (go_at_call 23; refine (refFrame_yes t (r.take n) _ hlm).mono ?_; rintro e w1 ⟨rfl, hb⟩))
  go_wp2
  go_ret3
  exact ⟨rfl, (Below.refl _ w).drew.trans hb⟩
def RefYes (w : World) (t : UInt8) (l : List UInt8) (e : Ending) (w' : World) : Prop := e = .returned (.tuple #[.int .u8 (t.toNat : Int), .string ⟨l.toArray⟩, .int .i64 0]) ∧ Below w.heap.size w w'
set_option maxHeartbeats 1000000 in
theorem refOpen_yes (t a b : UInt8) (r : List UInt8) (w : World) (hl : big [a, b] + 4 ≤ r.length) (hr : r.length ≤ 140737488351232) (hf : fram t (r.take (big [a, b])) = t :: a :: b :: r) : Calls Try.prog 25 #[.string ⟨(t :: a :: b :: r).toArray⟩] w (RefYes w t (r.take (big [a, b]))) := by
  have hsz : (ByteArray.mk (t :: a :: b :: r).toArray).size = r.length + 3 := rfl
  have hcut := sub_one t a b r
  have hcut2 := sub_mid t a b r (big [a, b]) (by omega)
  have hbig' := big2_lt a b
  have hne : (fram t (r.take (big [a, b])) == t :: a :: b :: r) = true := by rw [beq_iff_eq]; exact hf
  have hlm : (r.take (big [a, b])).length ≤ 65535 := by rw [List.length_take]; omega
  have hi0 : (0 : Int) < (r.length : Int) + 3 := by omega
  clear hf
  go_enter Try.func25, Try.ntmps25
  go_wp2_with fail
  refine (refBig_any [a, b] w (by simp)).mono ?_
  rintro e w1 ⟨rfl, rfl⟩
  generalize big [a, b] = n at *
  have hw1 : IntKind.i64.wrap (3 + (n : Int)) = 3 + (n : Int) := by rw [IntKind.wrap_i64]; omega
  go_wp2
  go_region_held3 (fun _ => True) (trivial) (first
    | (go_at_call 23; refine (refFrame_yes t (r.take n) _ hlm).mono ?_; rintro e w1 ⟨rfl, hb⟩))
  go_wp2
  go_quiet (fail)
  go_wp2
  go_ret3
  exact ⟨rfl, ((Below.refl _ w).drew.trans hb).trans (below_drewN (Below.refl _ _) _)⟩
def GotOpen (w : World) (t : UInt8) (l : List UInt8) (x : Int) (e : Ending) (w' : World) : Prop := ∃ v, e = .returned (.tuple #[.int .u8 (t.toNat : Int), v, .int .i64 x]) ∧ Holds w' w'.heap.size v l ∧ Below w.heap.size w w'
def GotRef (w : World) (t : UInt8) (l : List UInt8) (x : Int) (e : Ending) (w' : World) : Prop := e = .returned (.tuple #[.int .u8 (t.toNat : Int), .string ⟨l.toArray⟩, .int .i64 x]) ∧ Below w.heap.size w w'
theorem got_no {w w' : World} {x : Int} {e : Ending} (h : OpenNo w x e w') : GotOpen w 0 [] x e w' := ⟨_, h.1, ⟨_, _, _, rfl, Bts.nil_ _ _⟩, h.2⟩
theorem got_refNo {w w' : World} {x : Int} {e : Ending} (h : RefNo w x e w') : GotRef w 0 [] x e w' := ⟨h.1, h.2⟩
/-- When the frame that is made again is the one that was given. -/
theorem fram_again (t a b : UInt8) (r : List UInt8) (hl : big [a, b] + 4 ≤ r.length) : fram t (r.take (big [a, b])) = t :: a :: b :: r ↔ (r.length = big [a, b] + 4 ∧ big (r.drop (big [a, b])) = crc (t :: a :: b :: r.take (big [a, b]))) := by
  have hlm : (r.take (big [a, b])).length = big [a, b] := by rw [List.length_take]; omega
  have hlit : lit 2 (big [a, b]) = [a, b] := lit_big [a, b]
  have hbody : body t (r.take (big [a, b])) = t :: a :: b :: r.take (big [a, b]) := by
    unfold body
    rw [hlm, hlit]
    rfl
  have hfr : fram t (r.take (big [a, b])) = t :: a :: b :: (r.take (big [a, b]) ++ lit 4 (crc (t :: a :: b :: r.take (big [a, b])))) := by
    unfold fram
    rw [hbody]
    rfl
  have hcr := crc_lt (t :: a :: b :: r.take (big [a, b]))
  rw [hfr]
  generalize big [a, b] = n at *
  generalize crc (t :: a :: b :: r.take n) = k at *
  constructor
  · intro h
    injection h with _ h
    injection h with _ h
    injection h with _ h
    have h1 : r.take n ++ lit 4 k = r.take n ++ r.drop n := by rw [List.take_append_drop]; exact h
    have h2 := List.append_cancel_left h1
    have h3 : (r.drop n).length = 4 := by rw [← h2, lit_length]
    refine ⟨by rw [List.length_drop] at h3; omega, ?_⟩
    rw [← h2]
    exact big_lit_of (by omega)
  · rintro ⟨h1, h2⟩
    have h3 : lit 4 k = r.drop n := by
      rw [← h2]
      have h4 : (r.drop n).length = 4 := by rw [List.length_drop]; omega
      have := lit_big (r.drop n)
      rwa [h4] at this
    rw [h3, List.take_append_drop]
theorem opens (s : List UInt8) (hr : s.length ≤ 140737488351232) : ∃ (t : UInt8) (l : List UInt8) (x : Int),
    (∀ (A : Option Addr) (n c B : Nat) (w : World), Bts w B A n c s → B ≤ w.heap.size → Calls Try.prog 24 #[.slice A n c] w (GotOpen w t l x)) ∧ (∀ w : World, Calls Try.prog 25 #[.string ⟨s.toArray⟩] w (GotRef w t l x)) := by
  by_cases h7 : s.length < 7
  · refine ⟨0, [], 3, fun A n c B w h hB => ?_, fun w => ?_⟩
    · exact (open_few A n c w (by rw [← h.len]; exact h7)).mono fun _ _ h => got_no h
    · exact (refOpen_few s w h7).mono fun _ _ h => got_refNo h
  · obtain ⟨t, a, b, r, rfl⟩ : ∃ t a b r, s = t :: a :: b :: r := by
      match s, h7 with
      | t :: a :: b :: r, _ => exact ⟨t, a, b, r, rfl⟩
      | [], h => exact absurd (by simp) h
      | [_], h => exact absurd (by simp) h
      | [_, _], h => exact absurd (by simp) h
    have hlen : (t :: a :: b :: r).length = r.length + 3 := rfl
    have hq : ((t :: a :: b :: r).drop 1).take 2 = [a, b] := rfl
    rw [hlen] at h7 hr
    by_cases h1 : r.length < big [a, b] + 4
    · refine ⟨0, [], 3, fun A n c B w h hB => ?_, fun w => ?_⟩
      · have hn := h.len
        rw [hlen] at hn
        exact (open_short A n c B _ w h hB (by omega) (by rw [hq]; omega)).mono fun _ _ h => got_no h
      · exact (refOpen_short t a b r w (by omega) h1 (by omega)).mono fun _ _ h => got_refNo h
    · have hag := fram_again t a b r (by omega)
      by_cases hf : fram t (r.take (big [a, b])) = t :: a :: b :: r
      · obtain ⟨e1, e2⟩ := hag.1 hf
        refine ⟨t, r.take (big [a, b]), 0, fun A n c B w h hB => ?_, fun w => ?_⟩
        · have hn := h.len
          rw [hlen] at hn
          have en : n - 4 = big [a, b] + 3 := by omega
          have ed : (t :: a :: b :: r).drop (n - 4) = r.drop (big [a, b]) := by rw [en]; rfl
          have et : (t :: a :: b :: r).take (n - 4) = t :: a :: b :: r.take (big [a, b]) := by rw [en]; rfl
          have := open_right A n c B _ w h hB (by omega) (by rw [hq]; omega) (by rw [ed, et]; exact e2)
          rw [et] at this
          exact this.mono fun _ _ ⟨v, he, hm⟩ => ⟨v, he, hm.holds, hm.bel⟩
        · exact refOpen_yes t a b r w (by omega) (by omega) hf
      · refine ⟨0, [], 2, fun A n c B w h hB => ?_, fun w => ?_⟩
        · have hn := h.len
          rw [hlen] at hn
          by_cases h2 : big [a, b] + 4 < r.length
          · exact (open_long A n c B _ w h hB (by omega) (by rw [hq]; omega)).mono fun _ _ h => got_no h
          · have en : n - 4 = big [a, b] + 3 := by omega
            have ed : (t :: a :: b :: r).drop (n - 4) = r.drop (big [a, b]) := by rw [en]; rfl
            have et : (t :: a :: b :: r).take (n - 4) = t :: a :: b :: r.take (big [a, b]) := by rw [en]; rfl
            refine (open_wrong A n c B _ w h hB (by omega) (by rw [hq]; omega) ?_).mono fun _ _ h => got_no h
            rw [ed, et]
            exact fun e => hf (hag.2 ⟨by omega, e⟩)
        · exact (refOpen_no t a b r w (by omega) (by omega) hf).mono fun _ _ h => got_refNo h
def GotFrame (w : World) (l : List UInt8) (x : Int) (e : Ending) (w' : World) : Prop := ∃ v, e = .returned (.tuple #[v, .int .i64 x]) ∧ Holds w' w'.heap.size v l ∧ Below w.heap.size w w'
def GotText (w : World) (l : List UInt8) (x : Int) (e : Ending) (w' : World) : Prop := e = .returned (.tuple #[.string ⟨l.toArray⟩, .int .i64 x]) ∧ Below w.heap.size w w'
theorem frames (t : UInt8) (l : List UInt8) : ∃ (f : List UInt8) (x : Int),
    (∀ (A : Option Addr) (n c B : Nat) (w : World), Bts w B A n c l → B ≤ w.heap.size → Calls Try.prog 22 #[.int .u8 (t.toNat : Int), .slice A n c] w (GotFrame w f x)) ∧ (∀ w : World, Calls Try.prog 23 #[.int .u8 (t.toNat : Int), .string ⟨l.toArray⟩] w (GotText w f x)) := by
  by_cases h : l.length ≤ 65535
  · refine ⟨fram t l, 0, fun A n c B w hA hB => ?_, fun w => refFrame_yes t l w h⟩
    exact (frame_yes t A n c B l w hA hB (by rw [← hA.len]; exact h)).mono fun _ _ ⟨v, he, hm⟩ => ⟨v, he, hm.holds, hm.bel⟩
  · refine ⟨[], 17, fun A n c B w hA hB => ?_, fun w => ?_⟩
    · exact (frame_no t A n c w (by rw [← hA.len]; omega)).mono fun _ _ ⟨he, hw⟩ => ⟨_, he, ⟨_, _, _, rfl, Bts.nil_ _ _⟩, hw ▸ Below.refl _ _⟩
    · exact (refFrame_no t l w (by omega)).mono fun _ _ ⟨he, hw⟩ => ⟨he, hw ▸ Below.refl _ _⟩
set_option maxRecDepth 100000 in
set_option maxHeartbeats 2000000 in
theorem walk (w : World) (a0 : Int) (w0 : (Lit.int .u8 a0).wf = true) (A : Option Addr) (n c : Nat) (b : List UInt8) (hA : Bts w w.heap.size A n c b) (R : c ≤ 140737488351232) (E : Option Addr) (m d : Nat) (s : List UInt8) (hE : Bts w w.heap.size E m d s) (R' : d ≤ 140737488351232) :
    Calls Try.prog 5 #[.int .u8 a0, .slice A n c, .slice E m d] w fun e w' => e = .returned (.bool true) ∧ Below w.heap.size w w' := by
  obtain ⟨t, rfl⟩ := u8_of w0
  obtain ⟨f, x, hF, hFr⟩ := frames t b
  obtain ⟨u, l, y, hO, hOr⟩ := opens s (by have := hE.len; have := hE.cap; omega)
  have HF := Lib.hid hF
  have HFr := Lib.hid hFr
  have HO := Lib.hid hO
  have HOr := Lib.hid hOr
  have HA := Lib.hid hA
  have HE := Lib.hid hE
  clear hF hFr hO hOr hA hE w0
  go_enter Try.func5, Try.ntmps5
  go_wp2_with fail
  refine (HF.out A n c _ w HA.out (Nat.le_refl _)).mono ?_
  rintro e w1 ⟨v, rfl, ⟨A1, n1, c1, rfl, hB1⟩, hb1⟩
  have H1 := Lib.hid hB1
  have s1 := (HA.out.below hb1).str w1 (fun _ _ => rfl)
  clear hB1
  go_wp2_with fail
  refine (HFr.out w1).mono ?_
  rintro e w2 ⟨rfl, hb2⟩
  clear s1
  have b2 : Below w.heap.size w w2 := hb1.trans (hb2.mono hb1.size)
  go_wp2_with fail
  refine (HO.out E m d _ w2 (HE.out.below b2) b2.size).mono ?_
  rintro e w3 ⟨v, rfl, ⟨A3, n3, c3, rfl, hB3⟩, hb3⟩
  have H3 := Lib.hid hB3
  have b3 : Below w.heap.size w w3 := b2.trans (hb3.mono b2.size)
  have s3 := (HE.out.below b3).str w3 (fun _ _ => rfl)
  clear hB3
  go_wp2_with fail
  refine (HOr.out w3).mono ?_
  rintro e w4 ⟨rfl, hb4⟩
  clear s3
  have b4 : Below w.heap.size w w4 := b3.trans (hb4.mono b3.size)
  go_wp2_with fail
  refine (awake_any _).mono ?_
  rintro e w5 ⟨rfl, hb5⟩
  have b5 : Below w.heap.size w w5 := b4.trans (hb5.mono b4.size)
  have t3 : Below w3.heap.size w3 w5 := hb4.trans (hb5.mono hb4.size)
  have t2 : Below w2.heap.size w2 w5 := hb3.trans (t3.mono hb3.size)
  have t1 : Below w1.heap.size w1 w5 := hb2.trans (t2.mono hb2.size)
  have s1 := (H1.out.below t1).str w5 (fun _ _ => rfl)
  have s3 := (H3.out.below t3).str w5 (fun _ _ => rfl)
  go_wp2
  go_ret
  exact ⟨rfl, b5⟩
end Go.Proofs.Ytffniconhpbbbaa.fieldFrames
