/- What was written is read back; awake, walked. -/
import Derived.Test.YtfignanjelebaaaOpen
import Derived.Lib.SlBytesConst
namespace Go.Proofs.Ytfignanjelebaaa
open Go.RowKit
set_option linter.unusedVariables false
theorem u32_of {z : Int} (h : (Lit.int .u32 z).wf = true) : ∃ x : Nat, z = (x : Int) ∧ x < 4294967296 := by
  have h1 : IntKind.u32.min = 0 := rfl
  have h2 : IntKind.u32.max = 4294967295 := rfl
  simp only [Lit.wf, Bool.and_eq_true, decide_eq_true_eq] at h
  exact ⟨z.toNat, by omega, by omega⟩
theorem u16_of {z : Int} (h : (Lit.int .u16 z).wf = true) : ∃ x : Nat, z = (x : Int) ∧ x < 65536 := by
  have h1 : IntKind.u16.min = 0 := rfl
  have h2 : IntKind.u16.max = 65535 := rfl
  simp only [Lit.wf, Bool.and_eq_true, decide_eq_true_eq] at h
  exact ⟨z.toNat, by omega, by omega⟩
theorem u8_of {z : Int} (h : (Lit.int .u8 z).wf = true) : ∃ x : UInt8, z = (x.toNat : Int) := by
  have h1 : IntKind.u8.min = 0 := rfl
  have h2 : IntKind.u8.max = 255 := rfl
  simp only [Lit.wf, Bool.and_eq_true, decide_eq_true_eq] at h
  exact ⟨UInt8.ofNat z.toNat, by rw [UInt8.toNat_ofNat']; omega⟩
theorem i64_of {z : Int} (h : (Lit.int .i64 z).wf = true) : -9223372036854775808 ≤ z ∧ z ≤ 9223372036854775807 := by
  have h1 : IntKind.i64.min = -9223372036854775808 := rfl
  have h2 : IntKind.i64.max = 9223372036854775807 := rfl
  simp only [Lit.wf, Bool.and_eq_true, decide_eq_true_eq] at h
  omega
theorem lit_take (k x : Nat) (r : List UInt8) : (lit k x ++ r).take k = lit k x := by rw [List.take_left' (lit_length k x)]
theorem lit_drop (k x : Nat) (r : List UInt8) : (lit k x ++ r).drop k = r := by rw [List.drop_left' (lit_length k x)]
theorem big_lit_of {k x : Nat} (h : x < 256 ^ k) : big (lit k x) = x := by rw [big_lit, Nat.mod_eq_of_lt h]
theorem fram_len2 (t : UInt8) (l : List UInt8) : ((fram t l).drop 1).take 2 = lit 2 l.length := by
  unfold fram body
  simp only [List.cons_append, List.nil_append, List.drop_succ_cons, List.drop_zero, List.append_assoc]
  exact lit_take _ _ _
theorem fram_take (t : UInt8) (l : List UInt8) : (fram t l).take ((fram t l).length - 4) = body t l := by
  rw [fram_length]
  unfold fram
  exact List.take_left' (by rw [body_length]; omega)
theorem fram_drop (t : UInt8) (l : List UInt8) : (fram t l).drop ((fram t l).length - 4) = lit 4 (crc (body t l)) := by
  rw [fram_length]
  unfold fram
  exact List.drop_left' (by rw [body_length]; omega)
theorem body_drop (t : UInt8) (l : List UInt8) : (body t l).drop 3 = l := by
  unfold body
  exact List.drop_left' (by simp [lit_length])
theorem fram_head (t : UInt8) (l : List UInt8) : (fram t l)[0]?.getD 0 = t := by
  unfold fram body
  simp
theorem open_fram (t : UInt8) (A : Option Addr) (n c B : Nat) (l : List UInt8) (w : World) (h : Bts w B A n c (fram t l)) (hB : B ≤ w.heap.size) (hl : l.length ≤ 65535) : Calls Try.prog 70 #[.slice A n c] w (OpenYes w t l) := by
  have hn := h.len
  have hn' := hn
  rw [fram_length] at hn'
  have h1 : big (((fram t l).drop 1).take 2) = l.length := by rw [fram_len2]; exact big_lit_of (by omega)
  have h2 : big ((fram t l).drop (n - 4)) = crc ((fram t l).take (n - 4)) := by rw [← hn, fram_take, fram_drop]; exact big_lit_of (by have := crc_lt (body t l); omega)
  have := open_right A n c B (fram t l) w h hB (by omega) (by omega) h2
  have e1 : ((fram t l).take (n - 4)).drop 3 = l := by rw [← hn, fram_take, body_drop]
  rw [e1, fram_head] at this
  exact this
theorem fnum_back (g x : Nat) (r : List UInt8) (sh : Bool) (w : World) (h : FormAt w g (lit 4 x ++ r) sh) (hx : x < 4294967296) : Calls Try.prog 47 #[.pointer (some ⟨g, 0, none⟩)] w (NumIs w g x r sh) := by
  have := fnum_yes g _ sh w h (by simp [lit_length])
  rwa [lit_take, lit_drop, big_lit_of (by omega)] at this
theorem ftext_back (g : Nat) (s r : List UInt8) (sh : Bool) (w : World) (h : FormAt w g (lit 2 s.length ++ (s ++ r)) sh) (hs : s.length ≤ 65535) : Calls Try.prog 49 #[.pointer (some ⟨g, 0, none⟩)] w (TextIs w g s r sh) := by
  have := ftext_yes g _ sh w h (by simp [lit_length]) (by rw [lit_take, lit_drop, big_lit_of (by omega)]; simp)
  rwa [lit_take, lit_drop, big_lit_of (by omega), List.take_left' rfl, List.drop_left' rfl] at this

end Go.Proofs.Ytfignanjelebaaa
