/- field.Sum, walked. -/
import Derived.Test.YtfignanjelebaaaWords
import Derived.Laws.BitsAllLaws
namespace Go.Proofs.Ytfignanjelebaaa
open Go.RowKit
theorem bit_in {s : Nat} (hs : s < 4294967296) (b : UInt8) : bits .xor .u32 (s : Int) ((b.toNat : Int) % 4294967296) = ((s ^^^ b.toNat : Nat) : Int) := by
  have := b.toNat_lt
  have e : ((b.toNat : Int) % 4294967296) = ((b.toNat : Nat) : Int) := by omega
  rw [e, u32_xor_nat _ _ hs (by omega)]
theorem bit_step {s : Nat} (hs : s < 4294967296) : bits .xor .u32 ((s : Int) / 2) (bits .and .u32 (s : Int) 1 * 3988292384 % 4294967296) = ((zs s : Nat) : Int) := by
  have h1 : bits .and .u32 (s : Int) 1 = ((s &&& 1 : Nat) : Int) := u32_and_nat s 1 hs (by omega)
  have h2 : s &&& 1 < 2 := by rw [Nat.and_one_is_mod]; omega
  have h3 : s >>> 1 < 4294967296 := by rw [Nat.shiftRight_eq_div_pow]; omega
  have e1 : ((s : Int) / (2 : Int)) = Int.ofNat (s >>> 1) := by rw [Nat.shiftRight_eq_div_pow]; simp
  rw [h1, e1]
  unfold zs
  generalize s &&& 1 = x at *
  generalize s >>> 1 = y at *
  have e2 : (x : Int) * 3988292384 % 4294967296 = ((x * 3988292384 : Nat) : Int) := by omega
  rw [e2, Int.ofNat_eq_natCast, u32_xor_nat _ _ h3 (by omega)]
theorem bit_not {s : Nat} (hs : s < 4294967296) : bits .xor .u32 IntKind.u32.max (s : Int) = ((4294967295 - s : Nat) : Int) := by
  have h := u32_xor_nat 4294967295 s (by omega) hs
  have e : IntKind.u32.max = ((4294967295 : Nat) : Int) := rfl
  rw [e, h, Nat.xor_comm, not_u32 hs]
set_option maxHeartbeats 1000000 in
theorem sum_any (A : Option Addr) (n c B : Nat) (l : List UInt8) (w : World) (h : Bts w B A n c l) (hn : n ≤ 281474976710656) :
    Calls Try.prog 64 #[.slice A n c] w fun e w' => e = .returned (.int .u32 (crc l)) ∧ w = w' := by
  have HL := Lib.hid h.len
  have H := Lib.hid h
  clear h
  go_enter Try.func64, Try.ntmps64
  go_wp2
  go_loop [3, 9] (fun s i => ∃ k : Nat, k ≤ n ∧ i = .int .i64 k ∧ s = .int .u32 (st (l.take k) : Nat)) (fun _ i => n - (intOf i).toNat)
  case atStart => exact ⟨0, Nat.zero_le _, rfl, rfl⟩
  case round =>
    obtain ⟨k, hk, rfl, rfl⟩ := hrel
    by_cases hlt : k < n
    · obtain ⟨b, off, rfl, hb, hc⟩ := H.out.cell hlt
      go_wp2
      rw [bit_in (st_lt _)]
      go_loop [3, 17] (fun s i => ∃ m : Nat, m ≤ 8 ∧ i = .int .i64 m ∧ s = .int .u32 (zsN m (st (l.take k) ^^^ (l[k]?.getD 0).toNat) : Nat)) (fun _ i => 8 - (intOf i).toNat)
      case atStart => exact ⟨0, Nat.zero_le _, rfl, rfl⟩
      case round =>
        obtain ⟨m, hm, rfl, rfl⟩ := hrel
        have hs := zsN_lt m (xorb_lt (st_lt (l.take k)) (l[k]?.getD 0))
        by_cases hm8 : m < 8
        · go_wp2
          go_round
          case rel => exact ⟨m + 1, by omega, by go_num, by rw [bit_step hs]; rfl⟩
          case measure => simp [intOf]; omega
        · obtain rfl : m = 8 := by omega
          go_wp2
          go_round
          case rel => exact ⟨k + 1, by omega, by go_num, by rw [take_snoc (by rw [HL.out]; exact hlt), st_snoc]; rfl⟩
          case measure => simp [intOf]; omega
    · obtain rfl : k = n := by omega
      go_wp2
      go_ret
      exact ⟨ret1 (by rw [bit_not (st_lt _), List.take_of_length_le (by rw [HL.out]; omega)]; rfl), rfl⟩
end Go.Proofs.Ytfignanjelebaaa
