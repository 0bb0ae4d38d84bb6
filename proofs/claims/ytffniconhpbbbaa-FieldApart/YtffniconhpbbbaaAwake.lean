/- What was written is read back; awake, walked. -/
import Derived.Test.YtffniconhpbbbaaOpen
import Derived.Lib.SlBytesConst
namespace Go.Proofs.Ytffniconhpbbbaa
open Go.RowKit
set_option linter.unusedVariables false
theorem u32_of {z : Int} (h : (Lit.int .u32 z).wf = true) : ∃ x : Nat, z = (x : Int) ∧ x < 4294967296 := by
  have h1 : IntKind.u32.min = 0 := rfl
  have h2 : IntKind.u32.max = 4294967295 := rfl
  simp only [Lit.wf, Bool.and_eq_true, decide_eq_true_eq] at h
  exact ⟨z.toNat, by omega, by omega⟩
theorem u16_of {z : Int} (h : (Lit.int .u16 z).wf = true) : ∃ x : Nat, z = (x : Int) ∧ x < 65536 := by
  have h1 : IntKind.u16.min = 0 := rfl
  have h2 : IntKind.u16.max = 65535 := rfl
  simp only [Lit.wf, Bool.and_eq_true, decide_eq_true_eq] at h
  exact ⟨z.toNat, by omega, by omega⟩
theorem u8_of {z : Int} (h : (Lit.int .u8 z).wf = true) : ∃ x : UInt8, z = (x.toNat : Int) := by
  have h1 : IntKind.u8.min = 0 := rfl
  have h2 : IntKind.u8.max = 255 := rfl
  simp only [Lit.wf, Bool.and_eq_true, decide_eq_true_eq] at h
  exact ⟨UInt8.ofNat z.toNat, by rw [UInt8.toNat_ofNat']; omega⟩
theorem i64_of {z : Int} (h : (Lit.int .i64 z).wf = true) : -9223372036854775808 ≤ z ∧ z ≤ 9223372036854775807 := by
  have h1 : IntKind.i64.min = -9223372036854775808 := rfl
  have h2 : IntKind.i64.max = 9223372036854775807 := rfl
  simp only [Lit.wf, Bool.and_eq_true, decide_eq_true_eq] at h
  omega
theorem lit_take (k x : Nat) (r : List UInt8) : (lit k x ++ r).take k = lit k x := by rw [List.take_left' (lit_length k x)]
theorem lit_drop (k x : Nat) (r : List UInt8) : (lit k x ++ r).drop k = r := by rw [List.drop_left' (lit_length k x)]
theorem big_lit_of {k x : Nat} (h : x < 256 ^ k) : big (lit k x) = x := by rw [big_lit, Nat.mod_eq_of_lt h]
theorem fram_len2 (t : UInt8) (l : List UInt8) : ((fram t l).drop 1).take 2 = lit 2 l.length := by
  unfold fram body
  simp only [List.cons_append, List.nil_append, List.drop_succ_cons, List.drop_zero, List.append_assoc]
  exact lit_take _ _ _
theorem fram_take (t : UInt8) (l : List UInt8) : (fram t l).take ((fram t l).length - 4) = body t l := by
  rw [fram_length]
  unfold fram
  exact List.take_left' (by rw [body_length]; omega)
theorem fram_drop (t : UInt8) (l : List UInt8) : (fram t l).drop ((fram t l).length - 4) = lit 4 (crc (body t l)) := by
  rw [fram_length]
  unfold fram
  exact List.drop_left' (by rw [body_length]; omega)
theorem body_drop (t : UInt8) (l : List UInt8) : (body t l).drop 3 = l := by
  unfold body
  exact List.drop_left' (by simp [lit_length])
theorem fram_head (t : UInt8) (l : List UInt8) : (fram t l)[0]?.getD 0 = t := by
  unfold fram body
  simp
theorem open_fram (t : UInt8) (A : Option Addr) (n c B : Nat) (l : List UInt8) (w : World) (h : Bts w B A n c (fram t l)) (hB : B ≤ w.heap.size) (hl : l.length ≤ 65535) : Calls Try.prog 24 #[.slice A n c] w (OpenYes w t l) := by
  have hn := h.len
  have hn' := hn
  rw [fram_length] at hn'
  have h1 : big (((fram t l).drop 1).take 2) = l.length := by rw [fram_len2]; exact big_lit_of (by omega)
  have h2 : big ((fram t l).drop (n - 4)) = crc ((fram t l).take (n - 4)) := by rw [← hn, fram_take, fram_drop]; exact big_lit_of (by have := crc_lt (body t l); omega)
  have := open_right A n c B (fram t l) w h hB (by omega) (by omega) h2
  have e1 : ((fram t l).take (n - 4)).drop 3 = l := by rw [← hn, fram_take, body_drop]
  rw [e1, fram_head] at this
  exact this
theorem fnum_back (g x : Nat) (r : List UInt8) (sh : Bool) (w : World) (h : FormAt w g (lit 4 x ++ r) sh) (hx : x < 4294967296) : Calls Try.prog 17 #[.pointer (some ⟨g, 0, none⟩)] w (NumIs w g x r sh) := by
  have := fnum_yes g _ sh w h (by simp [lit_length])
  rwa [lit_take, lit_drop, big_lit_of (by omega)] at this
theorem ftext_back (g : Nat) (s r : List UInt8) (sh : Bool) (w : World) (h : FormAt w g (lit 2 s.length ++ (s ++ r)) sh) (hs : s.length ≤ 65535) : Calls Try.prog 19 #[.pointer (some ⟨g, 0, none⟩)] w (TextIs w g s r sh) := by
  have := ftext_yes g _ sh w h (by simp [lit_length]) (by rw [lit_take, lit_drop, big_lit_of (by omega)]; simp)
  rwa [lit_take, lit_drop, big_lit_of (by omega), List.take_left' rfl, List.drop_left' rfl] at this

theorem crc9 : crc [49, 50, 51, 52, 53, 54, 55, 56, 57] = 3421780262 := by decide +kernel
theorem nine_bts (W : World) (hf : Nat × Nat) : Bts (W.alloc (.cells #[.int .u8 49, .int .u8 50, .int .u8 51, .int .u8 52, .int .u8 53, .int .u8 54, .int .u8 55, .int .u8 56, .int .u8 57] 5 hf)) (W.heap.size + 1) (some ⟨W.heap.size, 0, none⟩) 9 9 [49, 50, 51, 52, 53, 54, 55, 56, 57] :=
  ⟨rfl, Nat.le_refl _, by decide, (fun e => by cases e), fun _ => ⟨W.heap.size, 0, rfl, by omega, fun j hj => by
    rw [Nat.zero_add, World.cell?_alloc_mark]
    match j, hj with
    | 0, _ => rfl
    | 1, _ => rfl
    | 2, _ => rfl
    | 3, _ => rfl
    | 4, _ => rfl
    | 5, _ => rfl
    | 6, _ => rfl
    | 7, _ => rfl
    | 8, _ => rfl⟩⟩
set_option maxRecDepth 100000 in
set_option maxHeartbeats 2000000 in
theorem awake_any (w : World) : Calls Try.prog 15 #[] w fun e w' => e = .returned (.bool true) ∧ Below w.heap.size w w' := by
  go_enter Try.func15, Try.ntmps15
  go_wp2_with fail
  refine (num_yes none 0 0 0 258 [] w (by omega) (Bts.nil_ _ _) (by omega) (by omega)).mono ?_
  rintro e w1 ⟨v, rfl, hm1⟩
  obtain ⟨A1, n1, c1, rfl, hB1⟩ := hm1.holds
  have HB1 := Lib.hid hB1
  have hn1 : n1 ≤ 4 := by rw [← hB1.len]; simp [lit_length]
  have hb1 := hm1.bel
  clear hB1 hm1
  go_wp2_with fail
  refine (text_yes A1 n1 c1 _ _ ⟨#[97, 98]⟩ w1 (by decide) HB1.out (Nat.le_refl _) (by omega)).mono ?_
  rintro e w2 ⟨v, rfl, hm2⟩
  obtain ⟨A2, n2, c2, rfl, hB2⟩ := hm2.holds
  have hl2 : ([] ++ lit 4 258 ++ lit 2 (ByteArray.mk #[97, 98]).size ++ (ByteArray.mk #[97, 98]).data.toList) = lit 4 258 ++ (lit 2 2 ++ [97, 98]) := rfl
  rw [hl2] at hB2
  have HB2 := Lib.hid hB2
  have hn2 : n2 = 8 := by rw [← hB2.len]; rfl
  subst hn2
  have hb2 : Below w.heap.size w w2 := hb1.trans (hm2.bel.mono hb1.size)
  clear hB2 hm2 hl2 hn1
  go_wp2_with fail
  refine (frame_yes 81 A2 8 c2 _ _ w2 HB2.out (Nat.le_refl _) (by omega)).mono ?_
  rintro e w3 ⟨v, rfl, hm3⟩
  obtain ⟨A3, n3, c3, rfl, hB3⟩ := hm3.holds
  have HB3 := Lib.hid hB3
  have hn3 : n3 = 15 := by rw [← hB3.len, fram_length]; rfl
  subst hn3
  have hb3 : Below w.heap.size w w3 := hb2.trans (hm3.bel.mono hb2.size)
  clear hB3 hm3
  go_wp2_with fail
  refine (open_fram 81 A3 15 c3 _ _ w3 HB3.out (Nat.le_refl _) (by decide)).mono ?_
  rintro e w4 ⟨v, rfl, hm4⟩
  obtain ⟨A4, n4, c4, rfl, hB4⟩ := hm4.holds
  have HB4 := Lib.hid hB4
  have hb4 : Below w.heap.size w w4 := hb3.trans (hm4.bel.mono hb3.size)
  clear hB4 hm4
  go_wp2_with fail
  refine (read_any A4 n4 c4 _ _ w4 HB4.out (Nat.le_refl _)).mono ?_
  rintro e w5 ⟨rfl, hf5, hb5'⟩
  have hb5 : Below w.heap.size w w5 := hb4.trans (hb5'.mono hb4.size)
  clear hb5'
  have hz := hb4.size
  go_wp2_with fail
  refine (fnum_back _ 258 _ false w5 hf5 (by omega)).mono ?_
  rintro e w6 ⟨rfl, hf6, hg6⟩
  have hb6 : Below w.heap.size w w6 := hb5.grown hg6 hb5.size (fun k hk => by cases hk; exact hz)
  go_wp2_with fail
  refine (ftext_back _ [97, 98] [] false w6 hf6 (by decide)).mono ?_
  rintro e w7 ⟨rfl, hf7, hg7⟩
  have hb7 : Below w.heap.size w w7 := hb6.grown hg7 hb6.size (fun k hk => by cases hk; exact hz)
  go_wp2_with fail
  refine (fend_any _ [] false w7 hf7).mono ?_
  rintro e w8 ⟨rfl, rfl⟩
  have he0 : endOf [] false = 0 := rfl
  rw [he0]
  clear he0
  have hcv := Lib.run_convert_bytes_const (P := Try.prog) w7 22 5 #[.int .u8 49, .int .u8 50, .int .u8 51, .int .u8 52, .int .u8 53, .int .u8 54, .int .u8 55, .int .u8 56, .int .u8 57] 9 9 Try.underlying22 Try.underlying5
  go_wp2_with fail
  refine (sum_any _ 9 9 _ _ _ (nine_bts w7 (9, 10)) (by omega)).mono ?_
  rintro e w8 ⟨rfl, rfl⟩
  rw [crc9]
  go_wp2
  go_ret
  exact ⟨rfl, hb7.alloc hb7.size _⟩
end Go.Proofs.Ytffniconhpbbbaa
