/- Decode, walked. -/
import Derived.Test.YtdlephffcbkalaaEncB
import Derived.Test.YtdlephffcbkalaaRow
import Derived.BigRegion
namespace Go.Proofs.Ytdlephffcbkalaa
open Go.RowKit
set_option linter.unusedVariables false

theorem or_low (x y : UInt8) : bits .or .i64 (x.toNat : Int) ((y.toNat : Int) * 256) = ((x.toNat + 256 * y.toNat : Nat) : Int) := by
  have hx := x.toNat_lt
  have hy := y.toNat_lt
  have e : (y.toNat : Int) * 256 = ((y.toNat * 256 : Nat) : Int) := by omega
  have o1 : ∀ a : Nat, a < 9223372036854775808 → (BitVec.ofInt 64 (a : Int)).toNat = a := fun a ha => by
    rw [BitVec.ofInt_natCast, BitVec.toNat_ofNat]; exact Nat.mod_eq_of_lt (by omega)
  have hb : x.toNat ||| y.toNat * 256 < 2 ^ 63 := Nat.or_lt_two_pow (by omega) (by omega)
  have h : bits .or .i64 (x.toNat : Int) ((y.toNat * 256 : Nat) : Int) = ((x.toNat ||| y.toNat * 256 : Nat) : Int) := by
    show IntKind.i64.wrap ((BitVec.ofInt 64 (x.toNat : Int) ||| BitVec.ofInt 64 ((y.toNat * 256 : Nat) : Int)).toNat : Int) = _
    rw [BitVec.toNat_or, o1 _ (by omega), o1 _ (by omega), IntKind.wrap_i64]
    omega
  have h2 : x.toNat ||| y.toNat * 256 = x.toNat + 256 * y.toNat := by
    rw [Nat.or_comm, Nat.mul_comm y.toNat 256, ← Nat.two_pow_add_eq_or_of_lt (i := 8) (by omega) y.toNat]
    omega
  rw [e, h, h2]
abbrev zr : Array Value := #[.string { data := #[] }, .int .i64 0]
theorem zr_one : zr.all (·.oneCell') = true := all_oneCell_toArray (rc_one emp)
def DecP (w : World) (o : Option Rw) (e : Ending) (w' : World) : Prop := e = .returned (.tuple #[.agg #[.string (bs (o.getD emp).1), .int .i64 (o.getD emp).2], .int .i64 (if o = none then 2 else 0)]) ∧ Below w.heap.size w w'
set_option maxRecDepth 20000 in
set_option maxHeartbeats 1000000 in
theorem dec_unfit {w : World} {B n c : Nat} {A : Option Addr} {b : List UInt8} (h : Bts w B A n c b) (hB : B ≤ w.heap.size) (hf : fits b = false) : Calls Try.prog 12 #[.slice A n c] w (DecP w none) := by
  obtain ⟨a0, ab, az⟩ := box1 w (Obj.cells zr 23)
  have A0 := Lib.hid a0
  have AB := Lib.hid ab
  have HK := Lib.hid (h.below (ab.mono hB))
  have HL := Lib.hid h.len
  have hlim := h.lim
  have hcap := h.cap
  unfold maxLen at hlim
  clear a0 ab az h
  by_cases hn : n = 32
  · subst hn
    obtain ⟨bb, off, rfl, hb, hc⟩ := HK.out.cell (k := 0) (by omega)
    have hk : 24 < (b[0]?.getD 0).toNat := by
      unfold fits at hf
      rw [HL.out] at hf
      simpa using hf
    have hk' : (24 : Int) < ((b[0]?.getD 0).toNat : Int) := by omega
    generalize (b[0]?.getD 0).toNat = k at *
    rw [Nat.add_zero] at hc
    clear hf
    go_enter Try.func12, Try.ntmps12
    go_wp2_with (first | (refine wpList_store_row rfl 23 _ _ rfl w.heap.size zr zr 23 rfl rfl A0.out s23 rfl zr_one ?_) | fail)
    refine bodyPost_ret (ret_row2 rfl rfl (setRow_in _ _ zr zr _ A0.out) Try.underlying23 rfl s23) rfl ?_
    exact ⟨rfl, below_row AB.out (Nat.le_refl _) _⟩
  · have hn' : ((n : Int) != 32) = true := by rw [bne_iff_ne]; omega
    clear hf
    go_enter Try.func12, Try.ntmps12
    go_wp2_with (first | (refine wpList_store_row rfl 23 _ _ rfl w.heap.size zr zr 23 rfl rfl A0.out s23 rfl zr_one ?_) | fail)
    refine bodyPost_ret (ret_row2 rfl rfl (setRow_in _ _ zr zr _ A0.out) Try.underlying23 rfl s23) rfl ?_
    exact ⟨rfl, below_row AB.out (Nat.le_refl _) _⟩
end Go.Proofs.Ytdlephffcbkalaa
