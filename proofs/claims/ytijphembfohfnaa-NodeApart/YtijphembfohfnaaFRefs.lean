/- The reference's functions, walked: Little, Big, Text, Sum, Sealed. -/
import Derived.Test.YtijphembfohfnaaFWords
import Derived.Laws.BitsAllLaws
import Derived.Laws.ShiftsVarLaws
namespace Go.Proofs.Ytijphembfohfnaa.F
open Go.RowKit
theorem str_get (l : List UInt8) (k : Nat) (h : k < (ByteArray.mk l.toArray).size) : (ByteArray.mk l.toArray)[k] = l[k]?.getD 0 := by
  have h' : k < l.length := h
  simp [ByteArray.getElem_eq_getElem_data, h']
theorem str_app (a b : List UInt8) : (ByteArray.mk a.toArray) ++ (ByteArray.mk b.toArray) = ByteArray.mk (a ++ b).toArray := by
  apply ByteArray.ext
  simp
theorem str1 (W : World) (v : Int) (b : UInt8) (hv : v = b.toNat) : (convert 22 9 (.slice (some ⟨W.heap.size, 0, none⟩) 1 1)).run Try.prog (W.alloc (.cells #[.int .u8 v] 5)) = .ok (.string ⟨#[b]⟩) (W.alloc (.cells #[.int .u8 v] 5)) := by
  refine run_convert_bytes_back _ 22 9 5 ⟨W.heap.size, 0, none⟩ 1 [b] Try.underlying22 Try.underlying5 Try.underlying9 fun j hj => ?_
  have h0 : j = 0 := by simpa using hj
  subst h0
  have := World.cell?_alloc_mark W #[.int .u8 v] 5 (0, 0) 0
  rw [Addr.add_lit, Nat.zero_add, this, hv]
  rfl
set_option maxRecDepth 20000 in
set_option maxHeartbeats 1000000 in
theorem little_any (n k : Nat) (w : World) (hn : n ≤ 4294967296) (hk : k ≤ 4) :
    Calls Try.prog 22 #[.int .i64 n, .int .i64 k] w fun e w' => e = .returned (.string ⟨(lit k n).toArray⟩) ∧ Below w.heap.size w w' := by
  go_enter Try.func22, Try.ntmps22
  go_wp2
  go_loopw [0, 5, 6] (fun x s i wr => ∃ m q : Nat, m ≤ k ∧ q ≤ 4294967296 ∧ Hid (q = n / 256 ^ m) ∧ i = .int .i64 m ∧ x = .int .i64 q ∧ s = .string ⟨(lit m n).toArray⟩ ∧ Below w.heap.size w wr) (fun _ _ i _ => k - (intOf i).toNat)
  case atStart => exact ⟨0, n, Nat.zero_le _, hn, by simp [Hid], rfl, rfl, rfl, Below.refl _ _⟩
  case round =>
    obtain ⟨m, q, hm, hq, Hq, rfl, rfl, rfl, hb⟩ := hrel
    by_cases hlt : m < k
    · have hll : (lit m n).length = m := lit_length m n
      have hl63 : ¬ 9223372036854775807 < (lit m n).length + 1 := by omega
      clear hll
      have hs1 := str1 wr ((q : Int) % 256) (UInt8.ofNat q) (by rw [UInt8.toNat_ofNat']; omega)
      go_wp2
      go_roundw
      case rel =>
        refine ⟨m + 1, q / 256, by omega, by omega, ?_, by go_num, by go_num, ?_, ?_⟩
        · show q / 256 = n / 256 ^ (m + 1)
          rw [Hq.out, Nat.div_div_eq_div_mul, Nat.pow_succ]
        · rw [← lit_div, ← Hq.out, str_app]
        · exact hb.alloc hb.size _
      case measure => simp [intOf]; omega
    · obtain rfl : m = k := by omega
      go_wp2
      go_ret
      exact ⟨rfl, hb⟩
end Go.Proofs.Ytijphembfohfnaa.F
