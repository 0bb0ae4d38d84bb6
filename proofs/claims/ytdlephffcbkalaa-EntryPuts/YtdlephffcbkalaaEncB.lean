/- Encode of an entry that is sound, walked. -/
import Derived.Test.YtdlephffcbkalaaEnc
namespace Go.Proofs.Ytdlephffcbkalaa
open Go.RowKit
set_option linter.unusedVariables false

theorem set_swap {l : List UInt8} {x y : UInt8} : (l.set 26 y).set 25 x = (l.set 25 x).set 26 y := List.set_comm _ _ (by decide)
set_option maxRecDepth 20000 in
set_option maxHeartbeats 1000000 in
theorem enc_yes_any (a : List UInt8) (x : Int) (w : World) (hs : sound (a, x) = true) : Calls Try.prog 8 #[.agg #[.string (bs a), .int .i64 x]] w (EncP w (some (raw a (UInt8.ofNat x.toNat)))) := by
  obtain ⟨hn, hx1, hx2⟩ := sound_iff.1 hs
  have hlen := name_len hn
  have h0 := nil_no (name_ne hn)
  have h0' := nil_no' (name_ne hn)
  dsimp only at hn hx1 hx2 hlen h0 h0'
  have HRW : Hid ((((z32.set 0 (UInt8.ofNat a.length)).take 1 ++ a ++ (z32.set 0 (UInt8.ofNat a.length)).drop (1 + a.length)).set 25 (UInt8.ofNat x.toNat)).set 26 0 = raw a (UInt8.ofNat x.toNat)) := raw_steps hlen.2
  have HS := Lib.hid hs
  clear hs hn
  have hmk := make_run (w.alloc (.cells #[.string (bs a), .int .i64 x] 23))
  obtain ⟨W, hW, h1, h2, h3, h4⟩ := start w (a, x)
  have HB := Lib.hid h3
  have HC := Lib.hid h1
  have HX := Lib.hid h2
  have HZ := Lib.hid h4
  rw [(box1 w _).2.2] at hmk
  dsimp only at hW h2
  rw [← hW] at hmk
  have c0 : W.cell? ⟨w.heap.size, 0, none⟩ = some (.string (bs a)) := cell_in h2 0
  have c1 : W.cell? ⟨w.heap.size, 1, none⟩ = some (.int .i64 x) := cell_in h2 1
  have HW := Lib.hid hW
  clear h1 h2 h3 h4 hW
  go_enter Try.func8, Try.ntmps8
  go_wp2_with fail
  refine (sound_any a x _).mono ?_
  rintro e w1 ⟨rfl, hb⟩
  rw [HS.out]
  have HC1 := Lib.hid (HC.out.keep (hb.block _ (by rw [HZ.out]; omega)))
  have HX1 := Lib.hid ((hb.block _ (by rw [HZ.out]; omega)).trans HX.out)
  have HB1 := Lib.hid (HB.out.trans (hb.mono HB.out.size))
  clear hb c0 c1 hmk HC HX HB HZ HW
  obtain ⟨k0, f0⟩ := HC1.out.cell (j := 0) (by omega)
  have c0 : w1.cell? ⟨w.heap.size, 0, none⟩ = some (.string (bs a)) := cell_in HX1.out 0
  have hsz : (bs a).size = a.length := bs_size a
  go_upto_region 7 with fail
  have hv0 : Value.int .u8 (a.length : Int) = bv (UInt8.ofNat a.length) := by
    unfold bv
    rw [UInt8.toNat_ofNat', Nat.mod_eq_of_lt (by omega)]
  have HC2 := Lib.hid (HC1.out.set 0 hv0)
  have HX2 : Hid ((w1.setCell ⟨w.heap.size + 1, 0, none⟩ (.int .u8 (a.length : Int))).heap[w.heap.size]? = some (.cells #[.string (bs a), .int .i64 x] 23 (0, 0))) := (Below.heap_setCell _ _ _ _ (by show w.heap.size ≠ w.heap.size + 1; omega)).trans HX1.out
  have HB2 := Lib.hid (HB1.out.setCell (p := ⟨w.heap.size + 1, 0, none⟩) (by show w.heap.size ≤ w.heap.size + 1; omega) (.int .u8 (a.length : Int)))
  clear HC1 HX1 HB1 k0 f0 c0 hv0
  generalize w1.setCell ⟨w.heap.size + 1, 0, none⟩ (.int .u8 (a.length : Int)) = W2 at *
  have c0 : W2.cell? ⟨w.heap.size, 0, none⟩ = some (.string (bs a)) := cell_in HX2.out 0
  obtain ⟨W3, hr, hC3, hne, hbl⟩ := copy_run (w := W2.drew) (g := w.heap.size + 1) (nm := a) HC2.out hlen.2
  have HC3 := Lib.hid hC3
  have HX3 : Hid (W3.heap[w.heap.size]? = some (.cells #[.string (bs a), .int .i64 x] 23 (0, 0))) := (hne _ (by omega)).trans HX2.out
  have HB3 : Hid (Below w.heap.size w W3) := (HB2.out.drew).trans (hbl _ (by omega))
  clear hC3 hne hbl HC2 HX2 HB2
  go_region
  clear hr c0
  obtain ⟨k1, f1⟩ := HC3.out.cell (j := 25) (by omega)
  obtain ⟨k2, f2⟩ := HC3.out.cell (j := 26) (by omega)
  have c1 : W3.cell? ⟨w.heap.size, 1, none⟩ = some (.int .i64 x) := cell_in HX3.out 1
  go_wp2_with fail
  go_region
  go_wp2_with fail
  go_ret2
  have hv1 : Value.int .u8 x = bv (UInt8.ofNat x.toNat) := by
    unfold bv
    rw [UInt8.toNat_ofNat', Nat.mod_eq_of_lt (by omega)]
    congr 1
    omega
  have hv2 : Value.int .u8 (x / 256) = bv 0 := by
    unfold bv
    congr 1
    show x / 256 = 0
    omega
  have hf := (HC3.out.set 25 hv1).set 26 hv2
  rw [HRW.out] at hf
  have hf' : Sec ((W3.setCell ⟨w.heap.size + 1, 25, none⟩ (.int .u8 x)).setCell ⟨w.heap.size + 1, 26, none⟩ (.int .u8 (x / 256))).drew (w.heap.size + 1) (raw a (UInt8.ofNat x.toNat)) := hf
  exact ⟨_, rfl, hf'.bts, by omega, ((HB3.out.setCell (p := ⟨w.heap.size + 1, 25, none⟩) (by show w.heap.size ≤ w.heap.size + 1; omega) _).setCell (p := ⟨w.heap.size + 1, 26, none⟩) (by show w.heap.size ≤ w.heap.size + 1; omega) _).drew⟩
theorem enc_any (a : List UInt8) (x : Int) (w : World) : Calls Try.prog 8 #[.agg #[.string (bs a), .int .i64 x]] w (EncP w (enc (a, x))) := by
  by_cases h : (a, x) = emp
  · rw [h, enc_emp]
    obtain ⟨rfl, rfl⟩ : a = [] ∧ x = 0 := by
      unfold emp at h
      simpa using h
    exact enc_emp_any w
  · cases hs : sound (a, x) with
    | false => rw [enc_no h hs]; exact enc_no_any a x w h hs
    | true => rw [enc_yes hs]; exact enc_yes_any a x w hs
end Go.Proofs.Ytdlephffcbkalaa
