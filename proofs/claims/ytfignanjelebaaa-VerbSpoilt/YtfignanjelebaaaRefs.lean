/- The reference's functions, walked: Little, Big, Text, Sum, Sealed. -/
import Derived.Test.YtfignanjelebaaaSum
import Derived.Laws.ShiftsVarLaws
namespace Go.Proofs.Ytfignanjelebaaa
open Go.RowKit
theorem str_get (l : List UInt8) (k : Nat) (h : k < (ByteArray.mk l.toArray).size) : (ByteArray.mk l.toArray)[k] = l[k]?.getD 0 := by
  have h' : k < l.length := h
  simp [ByteArray.getElem_eq_getElem_data, h']
theorem test_of {b : UInt8} {m r : Nat} (_hm : m < 8) : (((b.toNat : Int) % 4294967296 / 2 ^ m).tmod 2 != (r : Int) % 2) = decide (b.toNat >>> m % 2 ≠ r % 2) := by
  have hb := b.toNat_lt
  have e1 : (b.toNat : Int) % 4294967296 = (b.toNat : Nat) := by omega
  have e2 : ((b.toNat : Nat) : Int) / 2 ^ m = ((b.toNat >>> m : Nat) : Int) := by
    rw [Nat.shiftRight_eq_div_pow]; simp
  rw [e1, e2]
  generalize b.toNat >>> m = y
  have e3 : (y : Int).tmod 2 = ((y % 2 : Nat) : Int) := by rw [Int.tmod_eq_emod_of_nonneg (by omega)]; omega
  have e4 : (r : Int) % 2 = ((r % 2 : Nat) : Int) := by omega
  rw [e3, e4, bne, Bool.eq_iff_iff]
  simp
  omega
theorem half_xor {r : Nat} (hr : r < 4294967296) : bits .xor .u32 ((r : Int) / 2) 3988292384 = (((r >>> 1) ^^^ 3988292384 : Nat) : Int) := by
  have e1 : ((r : Int) / (2 : Int)) = Int.ofNat (r >>> 1) := by rw [Nat.shiftRight_eq_div_pow]; simp
  have h3 : r >>> 1 < 4294967296 := by rw [Nat.shiftRight_eq_div_pow]; omega
  rw [e1]
  exact u32_xor_nat _ 3988292384 h3 (by omega)
theorem half_lt {r : Nat} (hr : r < 4294967296) : (r >>> 1) ^^^ 3988292384 < 4294967296 := by
  have h3 : r >>> 1 < 2 ^ 32 := by rw [Nat.shiftRight_eq_div_pow]; omega
  exact Nat.xor_lt_two_pow h3 (by omega)
set_option maxHeartbeats 1000000 in
theorem refSum_any (l : List UInt8) (w : World) (hn : l.length ≤ 281474976710656) :
    Calls Try.prog 78 #[.string ⟨l.toArray⟩] w fun e w' => e = .returned (.int .i64 (crc l)) ∧ w = w' := by
  have hsz : (ByteArray.mk l.toArray).size = l.length := rfl
  go_enter Try.func78, Try.ntmps78
  go_wp2
  go_loop [3, 4] (fun s i => ∃ k : Nat, k ≤ l.length ∧ i = .int .i64 k ∧ s = .int .u32 (st (l.take k) : Nat)) (fun _ i => l.length - (intOf i).toNat)
  case atStart => exact ⟨0, Nat.zero_le _, rfl, rfl⟩
  case round =>
    obtain ⟨k, hk, rfl, rfl⟩ := hrel
    by_cases hlt : k < l.length
    · go_wp2
      obtain ⟨b, hb⟩ : ∃ b, l[k]?.getD 0 = b := ⟨_, rfl⟩
      have Hb := Lib.hid hb
      clear hb
      have hS := st_lt (l.take k)
      generalize hs : st (l.take k) = s at *
      have Hs := Lib.hid hs
      clear hs
      go_loop [3, 5] (fun s' i => ∃ m r : Nat, m ≤ 8 ∧ i = .int .i64 m ∧ s' = .int .u32 r ∧ r < 4294967296 ∧ Hid (r ^^^ (b.toNat >>> m) = zsN m (s ^^^ b.toNat))) (fun _ i => 8 - (intOf i).toNat)
      case atStart => exact ⟨0, s, Nat.zero_le _, rfl, rfl, hS, rfl⟩
      case round =>
        obtain ⟨m, r, hm, rfl, rfl, hr, HR⟩ := hrel
        by_cases hm8 : m < 8
        · go_wp2
          · have ht : (((ByteArray.mk l.toArray)[k].toNat : Int) % 4294967296 / 2 ^ m).tmod 2 != (r : Int) % 2 := by assumption
            rw [str_get, Hb.out, test_of hm8] at ht
            go_round
            case rel =>
              refine ⟨m + 1, (r >>> 1) ^^^ 3988292384, by omega, by go_num, by rw [half_xor hr], half_lt hr, ?_⟩
              have := zs_ne (of_decide_eq_true ht)
              rw [HR.out] at this
              exact this
            case measure => simp [intOf]; omega
          · have ht : ((((ByteArray.mk l.toArray)[k].toNat : Int) % 4294967296 / 2 ^ m).tmod 2 != (r : Int) % 2) = false := by assumption
            rw [str_get, Hb.out, test_of hm8] at ht
            go_round
            case rel =>
              refine ⟨m + 1, r >>> 1, by omega, by go_num, by rw [Nat.shiftRight_eq_div_pow]; simp, by rw [Nat.shiftRight_eq_div_pow]; omega, ?_⟩
              have := zs_eq (Classical.not_not.1 (of_decide_eq_false ht))
              rw [HR.out] at this
              exact this
            case measure => simp [intOf]; omega
        · obtain rfl : m = 8 := by omega
          go_wp2
          go_round
          case rel =>
            refine ⟨k + 1, by omega, by go_num, ?_⟩
            have h8 : r ^^^ b.toNat >>> 8 = zsN 8 (s ^^^ b.toNat) := HR.out
            have h0 : b.toNat >>> 8 = 0 := by have := b.toNat_lt; rw [Nat.shiftRight_eq_div_pow]; omega
            rw [h0, Nat.xor_zero] at h8
            rw [take_snoc hlt, st_snoc, Hb.out, Hs.out, h8]
            rfl
          case measure => simp [intOf]; omega
    · obtain rfl : k = l.length := by omega
      go_wp2
      go_ret
      refine ⟨ret1 ?_, rfl⟩
      have h1 : bits .xor .u32 (st l : Int) 4294967295 = ((st l ^^^ 4294967295 : Nat) : Int) := u32_xor_nat _ 4294967295 (st_lt l) (by omega)
      rw [h1, not_u32 (st_lt l)]
      have := st_lt l
      unfold wrap64 crc
      omega

theorem str_app (a b : List UInt8) : (ByteArray.mk a.toArray) ++ (ByteArray.mk b.toArray) = ByteArray.mk (a ++ b).toArray := by
  apply ByteArray.ext
  simp
theorem str1 (W : World) (v : Int) (b : UInt8) (hv : v = b.toNat) : (convert 24 9 (.slice (some ⟨W.heap.size, 0, none⟩) 1 1)).run Try.prog (W.alloc (.cells #[.int .u8 v] 5)) = .ok (.string ⟨#[b]⟩) (W.alloc (.cells #[.int .u8 v] 5)) := by
  refine run_convert_bytes_back _ 24 9 5 ⟨W.heap.size, 0, none⟩ 1 [b] Try.underlying24 Try.underlying5 Try.underlying9 fun j hj => ?_
  have h0 : j = 0 := by simpa using hj
  subst h0
  have := World.cell?_alloc_mark W #[.int .u8 v] 5 (0, 0) 0
  rw [Addr.add_lit, Nat.zero_add, this, hv]
  rfl
set_option maxHeartbeats 1000000 in
theorem little_any (n k : Nat) (w : World) (hn : n ≤ 4294967296) (hk : k ≤ 4) :
    Calls Try.prog 57 #[.int .i64 n, .int .i64 k] w fun e w' => e = .returned (.string ⟨(lit k n).toArray⟩) ∧ Below w.heap.size w w' := by
  go_enter Try.func57, Try.ntmps57
  go_wp2
  go_loopw [0, 5, 6] (fun x s i wr => ∃ m q : Nat, m ≤ k ∧ q ≤ 4294967296 ∧ Hid (q = n / 256 ^ m) ∧ i = .int .i64 m ∧ x = .int .i64 q ∧ s = .string ⟨(lit m n).toArray⟩ ∧ Below w.heap.size w wr) (fun _ _ i _ => k - (intOf i).toNat)
  case atStart => exact ⟨0, n, Nat.zero_le _, hn, by simp [Hid], rfl, rfl, rfl, Below.refl _ _⟩
  case round =>
    obtain ⟨m, q, hm, hq, Hq, rfl, rfl, rfl, hb⟩ := hrel
    by_cases hlt : m < k
    · have hll : (lit m n).length = m := lit_length m n
      have hl63 : ¬ 9223372036854775807 < (lit m n).length + 1 := by omega
      clear hll
      have hs1 := str1 wr ((q : Int) % 256) (UInt8.ofNat q) (by rw [UInt8.toNat_ofNat']; omega)
      go_wp2
      go_roundw
      case rel =>
        refine ⟨m + 1, q / 256, by omega, by omega, ?_, by go_num, by go_num, ?_, ?_⟩
        · show q / 256 = n / 256 ^ (m + 1)
          rw [Hq.out, Nat.div_div_eq_div_mul, Nat.pow_succ]
        · rw [← lit_div, ← Hq.out, str_app]
        · exact hb.alloc hb.size _
      case measure => simp [intOf]; omega
    · obtain rfl : m = k := by omega
      go_wp2
      go_ret
      exact ⟨rfl, hb⟩
end Go.Proofs.Ytfignanjelebaaa
