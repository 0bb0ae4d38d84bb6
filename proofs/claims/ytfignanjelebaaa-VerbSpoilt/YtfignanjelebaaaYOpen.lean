/- package verb: open: the fields of a frame with a tag, if it is one. -/
import Derived.Test.YtfignanjelebaaaYWrite
import Derived.Test.YtfignanjelebaaaAwake
namespace Go.Proofs.Ytfignanjelebaaa
open Go.RowKit
set_option linter.unusedVariables false
theorem fram_is {l : List UInt8} (hn : 7 ≤ l.length) (hx : 3 + big ((l.drop 1).take 2) + 4 = l.length) (hs : big (l.drop (l.length - 4)) = crc (l.take (l.length - 4))) : l = fram (l[0]?.getD 0) ((l.take (l.length - 4)).drop 3) ∧ ((l.take (l.length - 4)).drop 3).length ≤ 65535 := by
  have hl2 : ((l.drop 1).take 2).length = 2 := by rw [List.length_take, List.length_drop]; omega
  have hb2 : big ((l.drop 1).take 2) < 65536 := by have := big_lt ((l.drop 1).take 2); rw [hl2] at this; exact this
  have hlen : ((l.take (l.length - 4)).drop 3).length = big ((l.drop 1).take 2) := by rw [List.length_drop, List.length_take]; omega
  have h4 : (l.drop (l.length - 4)).length = 4 := by rw [List.length_drop]; omega
  have e4 := lit_big (l.drop (l.length - 4))
  rw [h4, hs] at e4
  have e2 := lit_big ((l.drop 1).take 2)
  rw [hl2] at e2
  have hbody : body (l[0]?.getD 0) ((l.take (l.length - 4)).drop 3) = l.take (l.length - 4) := by
    unfold body
    rw [hlen, e2]
    match l, hn with
    | a :: b :: c :: r, h => simp; rw [show r.length - 1 = (r.length - 4) + 3 from by simp only [List.length_cons] at h; omega]; simp
  refine ⟨?_, by omega⟩
  unfold fram
  rw [hbody, e4, List.take_append_drop]
theorem fram_len7 (t : UInt8) (x : List UInt8) (hx : x.length ≤ 65535) : 7 ≤ (fram t x).length ∧ 3 + big (((fram t x).drop 1).take 2) + 4 = (fram t x).length ∧ big ((fram t x).drop ((fram t x).length - 4)) = crc ((fram t x).take ((fram t x).length - 4)) := by
  have h1 : big (((fram t x).drop 1).take 2) = x.length := by rw [fram_len2]; exact big_lit_of (by omega)
  refine ⟨by rw [fram_length]; omega, by rw [h1, fram_length]; omega, ?_⟩
  rw [fram_take, fram_drop]
  exact big_lit_of (by have := crc_lt (body t x); omega)
def OpQ (w : World) (l : List UInt8) (e : Ending) (w' : World) : Prop :=
  ∃ (t : UInt8) (A : Option Addr) (n c : Nat) (x : Int) (y : List UInt8), e = .returned (.tuple #[.int .u8 (t.toNat : Int), .slice A n c, .int .i64 x]) ∧ Bts w' w'.heap.size A n c y ∧ Below w.heap.size w w' ∧ ((x = 0 ∧ l = fram t y ∧ y.length ≤ 65535) ∨ (x ≠ 0 ∧ ∀ (t : UInt8) (y : List UInt8), y.length ≤ 65535 → l ≠ fram t y))
theorem op_no {w w' : World} {l : List UInt8} {e : Ending} {x : Int} (h : OpenNo w x e w') (hx : x ≠ 0) (hl : ∀ (t : UInt8) (y : List UInt8), y.length ≤ 65535 → l ≠ fram t y) : OpQ w l e w' := by
  obtain ⟨rfl, hb⟩ := h
  exact ⟨0, none, 0, 0, x, [], rfl, Bts.nil_ _ _, hb, .inr ⟨hx, hl⟩⟩
theorem open_any (A : Option Addr) (n c B : Nat) (l : List UInt8) (w : World) (h : Bts w B A n c l) (hB : B ≤ w.heap.size) : Calls Try.prog 70 #[.slice A n c] w (OpQ w l) := by
  have hn := h.len
  by_cases h7 : n < 7
  · refine (open_few A n c w h7).mono fun e w' hq => op_no hq (by decide) fun t y hy e => ?_
    have := (fram_len7 t y hy).1
    rw [← e] at this
    omega
  by_cases h1 : n < 3 + big ((l.drop 1).take 2) + 4
  · refine (open_short A n c B l w h hB (by omega) h1).mono fun e w' hq => op_no hq (by decide) fun t y hy e => ?_
    have := (fram_len7 t y hy).2.1
    rw [← e] at this
    omega
  by_cases h2 : 3 + big ((l.drop 1).take 2) + 4 < n
  · refine (open_long A n c B l w h hB (by omega) h2).mono fun e w' hq => op_no hq (by decide) fun t y hy e => ?_
    have := (fram_len7 t y hy).2.1
    rw [← e] at this
    omega
  by_cases h3 : big (l.drop (n - 4)) = crc (l.take (n - 4))
  · refine (open_right A n c B l w h hB (by omega) (by omega) h3).mono fun e w' hq => ?_
    obtain ⟨v, rfl, hm⟩ := hq
    obtain ⟨A', n', c', rfl, hB'⟩ := hm.holds
    subst hn
    have hf := fram_is (l := l) (by omega) (by omega) h3
    exact ⟨_, A', n', c', 0, _, rfl, hB', hm.bel, .inl ⟨rfl, hf.1, hf.2⟩⟩
  · refine (open_wrong A n c B l w h hB (by omega) (by omega) h3).mono fun e w' hq => op_no hq (by decide) fun t y hy e => ?_
    have := (fram_len7 t y hy).2.2
    rw [← e, hn] at this
    exact h3 this
/-- What open tells of bytes. -/
def OkF (tag : UInt8) (l : List UInt8) (ok : Bool) (rest : List UInt8) : Prop := (ok = true ∧ l = fram tag rest ∧ rest.length ≤ 65535) ∨ (ok = false ∧ ∀ y : List UInt8, y.length ≤ 65535 → l ≠ fram tag y)
def VOpQ (w : World) (tag : UInt8) (l : List UInt8) (e : Ending) (w' : World) : Prop :=
  ∃ (f : Nat) (ok : Bool) (rest : List UInt8), e = .returned (.tuple #[.pointer (some ⟨f, 0, none⟩), .bool ok]) ∧ w.heap.size ≤ f ∧ FormAt w' f rest false ∧ Below w.heap.size w w' ∧ OkF tag l ok rest
set_option maxHeartbeats 1000000 in
theorem vopen_any (tag : UInt8) (A : Option Addr) (n c B : Nat) (l : List UInt8) (w : World) (h : Bts w B A n c l) (hB : B ≤ w.heap.size) : Calls Try.prog 45 #[bv tag, .slice A n c] w (VOpQ w tag l) := by
  have H := Lib.hid h
  clear h
  unfold bv
  go_enter Try.func45, Try.ntmps45
  go_wp2_with fail
  refine (open_any A n c B l w H.out hB).mono ?_
  rintro e w1 ⟨t, A1, n1, c1, x, y, rfl, hb1, hbel, hor⟩
  have H1 := Lib.hid hb1
  have HB1 := Lib.hid hbel
  have HO := Lib.hid hor
  clear hb1 hbel hor
  go_wp2_with fail
  refine (read_any A1 n1 c1 _ y w1 H1.out (Nat.le_refl _)).mono ?_
  rintro e w2 ⟨rfl, hf, hb2⟩
  have HF := Lib.hid hf
  have HB2 := Lib.hid (HB1.out.trans (hb2.mono HB1.out.size))
  have hsz := HB1.out.size
  clear hf hb2 HB1 H1
  rcases HO.out with ⟨rfl, hl, hy⟩ | ⟨hx, hl⟩
  · have HL := Lib.hid hl
    clear hl HO
    by_cases ht : t = tag
    · subst ht
      go_wp2_with fail
      go_ret2
      exact ⟨_, true, y, rfl, hsz, HF.out, HB2.out, .inl ⟨rfl, HL.out, hy⟩⟩
    · have htb : ((t.toNat : Int) == (tag.toNat : Int)) = false := by
        rw [beq_eq_false_iff_ne]
        intro e
        exact ht (UInt8.toNat_inj.1 (by omega))
      have HT := Lib.hid ht
      clear ht
      go_wp2_with fail
      go_ret2
      exact ⟨_, false, y, rfl, hsz, HF.out, HB2.out, .inr ⟨rfl, fun z hz e => by
        have e1 := HL.out
        rw [e] at e1
        exact HT.out (fram_inj e1).1.symm⟩⟩
  · have HL := Lib.hid hl
    have hxb : (x == 0) = false := by rw [beq_eq_false_iff_ne]; exact hx
    clear hl HO hx
    go_wp2_with fail
    go_ret2
    exact ⟨_, false, y, rfl, hsz, HF.out, HB2.out, .inr ⟨rfl, fun z hz => HL.out tag z hz⟩⟩
end Go.Proofs.Ytfignanjelebaaa
