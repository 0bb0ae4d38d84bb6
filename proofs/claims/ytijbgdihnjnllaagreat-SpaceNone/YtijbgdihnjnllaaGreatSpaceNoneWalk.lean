/- The law SpaceNone, walked. -/
import Derived.Test.YtijbgdihnjnllaaGreatVAwake
namespace Go.Proofs.YtijbgdihnjnllaaGreat.V
open Go.RowKit
set_option linter.unusedVariables false
set_option maxRecDepth 20000
theorem xb_nodes {N k : Nat} (hN : 64 ≤ N) (hN1 : N ≤ 1024) (h1 : 36 ≤ k) (h2 : k < 43) : (Xb N)[k]?.getD [] = zeros := by
  have hm : MOk N [(0, U.sec N 1 0)] := (MOk.nil N).ins (okn_of hN1 (n := 0) (by omega) (by unfold inLog; omega)) (by omega) (lt_sec (U.ok_iff.2 (by omega))) (by right; simp)
  unfold Xb
  rw [lay_getD (X1_len N) hm (by omega), show ([(0, U.sec N 1 0)] : List Wr) = ins ((0 : Nat) : Int) (U.sec N 1 0) [] from rfl, view_ins', if_neg (by omega), view_nil]
  show (X1 N)[k]?.getD [] = zeros
  rw [show (X1 N)[k]?.getD [] = view (X0 N) (fillM N (X0 N)) k from lay_getD (X0_len N) (MOk.fill hN hN1) (by omega), view_fill, if_neg (by omega), if_neg (by omega), if_neg (by omega), if_neg (by omega), if_pos (by omega)]
theorem free_node {N n : Nat} (hN : 64 ≤ N) (hN1 : N ≤ 1024) (hn : n < 32) (h1 : n ≠ 1) : nodeB (Xb N) [] n = D.zeroN.img := by
  have hz : ∀ i, i < 4 → D.piece zeros i = D.zeroN.img := fun i hi => by
    rcases (show i = 0 ∨ i = 1 ∨ i = 2 ∨ i = 3 by omega) with rfl | rfl | rfl | rfl <;> decide +kernel
  unfold nodeB
  rw [view_nil]
  by_cases h : n / 4 = 0
  · rw [h, show (Xb N)[35 + 0]?.getD [] = root0 from (Xb_std hN hN1).nd]
    rcases (show n % 4 = 0 ∨ n % 4 = 2 ∨ n % 4 = 3 by omega) with e | e | e <;> rw [e] <;> decide +kernel
  · rw [xb_nodes hN hN1 (by omega) (by omega)]
    exact hz _ (by omega)

/-- Which error 'open' gives. -/
def ErrIs (w0 : World) (p q : Nat) (n er : Int) : Prop := ∀ d O s w, Sto w0 w p d O 64 s (Xb 64) q [] → Calls Tryz.prog 44 #[.pointer (some ⟨p, 0, none⟩), .int .i64 n] w (Errs w er)
set_option maxHeartbeats 4000000 in
theorem none_low (n a z : Int) (A : Option Addr) (l c : Nat) (w : World) (hn : n < 0) : Calls Tryz.prog 5 #[.int .i64 n, .int .i64 a, .int .i64 z, .slice A l c] w fun e w' => e = .returned (.bool true) ∧ Below w.heap.size w w' := by
  have hE : ∀ d p q O s w', Sto w w' p d O 64 s (Xb 64) q [] → Calls Tryz.prog 44 #[.pointer (some ⟨p, 0, none⟩), .int .i64 n] w' (Errs w' 4) := fun d p q O s w' h => open_range h (.inl hn)
  have hn1 : (n == 1) = false := by rw [beq_eq_false_iff_ne]; omega
  go_enter Tryz.func5, Tryz.ntmps5
  go_wp2_with fail
  refine (begin_any 64 w (by omega) (by omega)).mono ?_
  rintro e w1 ⟨d, p, q, O, s, rfl, h1⟩
  have H1 := Lib.hid h1
  clear h1
  go_wp2_with fail
  refine (awake_any w1).mono ?_
  rintro e w2 ⟨rfl, hb⟩
  have H2 := Lib.hid (H1.out.below hb)
  clear hb H1
  go_wp2_with fail
  refine (read_err (open_nil n w2) rfl a z).mono ?_
  rintro e w3 ⟨rfl, hb⟩
  have H3 := Lib.hid (H2.out.below hb)
  clear hb H2
  go_wp2_with fail
  refine (sectors_err (open_nil n w3) rfl).mono ?_
  rintro e w4 ⟨rfl, hb⟩
  have H4 := Lib.hid (H3.out.below hb)
  clear hb H3
  go_wp2_with fail
  refine (write_err (open_nil n w4) rfl a A l c).mono ?_
  rintro e w5 ⟨rfl, hb⟩
  have H5 := Lib.hid (H4.out.below hb)
  clear hb H4
  go_wp2_with fail
  refine (trunc_err (open_nil n w5) rfl z).mono ?_
  rintro e w6 ⟨rfl, hb⟩
  have H6 := Lib.hid (H5.out.below hb)
  clear hb H5
  go_wp2_with fail
  refine (read_err (hE _ _ _ _ _ _ H6.out) rfl a z).mono ?_
  rintro e w7 ⟨rfl, hb⟩
  have H7 := Lib.hid (H6.out.below hb)
  clear hb H6
  go_wp2_with fail
  refine (sectors_err (hE _ _ _ _ _ _ H7.out) rfl).mono ?_
  rintro e w8 ⟨rfl, hb⟩
  have H8 := Lib.hid (H7.out.below hb)
  clear hb H7
  go_wp2_with fail
  refine (write_err (hE _ _ _ _ _ _ H8.out) rfl a A l c).mono ?_
  rintro e w9 ⟨rfl, hb⟩
  have H9 := Lib.hid (H8.out.below hb)
  clear hb H8
  go_wp2_with fail
  refine (trunc_err (hE _ _ _ _ _ _ H9.out) rfl z).mono ?_
  rintro e w10 ⟨rfl, hb⟩
  have H10 := Lib.hid (H9.out.below hb)
  clear hb H9
  go_wp2_with fail
  refine (T.ints_any (T.Ints.nil_ w10 w10.heap.size) (T.Ints.nil_ w10 w10.heap.size)).mono ?_
  rintro e w11 ⟨rfl, hb⟩
  have H11 := Lib.hid (H10.out.below hb)
  clear hb H10
  go_wp2_with fail
  go_ret
  exact ⟨rfl, H11.out.ons.sit.bel⟩

set_option maxHeartbeats 4000000 in
theorem none_high (n a z : Int) (A : Option Addr) (l c : Nat) (w : World) (hn : 31 < n) : Calls Tryz.prog 5 #[.int .i64 n, .int .i64 a, .int .i64 z, .slice A l c] w fun e w' => e = .returned (.bool true) ∧ Below w.heap.size w w' := by
  have hE : ∀ d p q O s w', Sto w w' p d O 64 s (Xb 64) q [] → Calls Tryz.prog 44 #[.pointer (some ⟨p, 0, none⟩), .int .i64 n] w' (Errs w' 4) := fun d p q O s w' h => open_range h (.inr hn)
  have hn0 : ¬ n < 0 := by omega
  have hn1 : (n == 1) = false := by rw [beq_eq_false_iff_ne]; omega
  go_enter Tryz.func5, Tryz.ntmps5
  go_wp2_with fail
  refine (begin_any 64 w (by omega) (by omega)).mono ?_
  rintro e w1 ⟨d, p, q, O, s, rfl, h1⟩
  have H1 := Lib.hid h1
  clear h1
  go_wp2_with fail
  refine (awake_any w1).mono ?_
  rintro e w2 ⟨rfl, hb⟩
  have H2 := Lib.hid (H1.out.below hb)
  clear hb H1
  go_wp2_with fail
  refine (read_err (open_nil n w2) rfl a z).mono ?_
  rintro e w3 ⟨rfl, hb⟩
  have H3 := Lib.hid (H2.out.below hb)
  clear hb H2
  go_wp2_with fail
  refine (sectors_err (open_nil n w3) rfl).mono ?_
  rintro e w4 ⟨rfl, hb⟩
  have H4 := Lib.hid (H3.out.below hb)
  clear hb H3
  go_wp2_with fail
  refine (write_err (open_nil n w4) rfl a A l c).mono ?_
  rintro e w5 ⟨rfl, hb⟩
  have H5 := Lib.hid (H4.out.below hb)
  clear hb H4
  go_wp2_with fail
  refine (trunc_err (open_nil n w5) rfl z).mono ?_
  rintro e w6 ⟨rfl, hb⟩
  have H6 := Lib.hid (H5.out.below hb)
  clear hb H5
  go_wp2_with fail
  refine (read_err (hE _ _ _ _ _ _ H6.out) rfl a z).mono ?_
  rintro e w7 ⟨rfl, hb⟩
  have H7 := Lib.hid (H6.out.below hb)
  clear hb H6
  go_wp2_with fail
  refine (sectors_err (hE _ _ _ _ _ _ H7.out) rfl).mono ?_
  rintro e w8 ⟨rfl, hb⟩
  have H8 := Lib.hid (H7.out.below hb)
  clear hb H7
  go_wp2_with fail
  refine (write_err (hE _ _ _ _ _ _ H8.out) rfl a A l c).mono ?_
  rintro e w9 ⟨rfl, hb⟩
  have H9 := Lib.hid (H8.out.below hb)
  clear hb H8
  go_wp2_with fail
  refine (trunc_err (hE _ _ _ _ _ _ H9.out) rfl z).mono ?_
  rintro e w10 ⟨rfl, hb⟩
  have H10 := Lib.hid (H9.out.below hb)
  clear hb H9
  go_wp2_with fail
  refine (T.ints_any (T.Ints.nil_ w10 w10.heap.size) (T.Ints.nil_ w10 w10.heap.size)).mono ?_
  rintro e w11 ⟨rfl, hb⟩
  have H11 := Lib.hid (H10.out.below hb)
  clear hb H10
  go_wp2_with fail
  go_ret
  exact ⟨rfl, H11.out.ons.sit.bel⟩

set_option maxHeartbeats 4000000 in
theorem none_free (n a z : Int) (A : Option Addr) (l c : Nat) (w : World) (hn : 0 ≤ n ∧ n ≤ 31 ∧ n ≠ 1) : Calls Tryz.prog 5 #[.int .i64 n, .int .i64 a, .int .i64 z, .slice A l c] w fun e w' => e = .returned (.bool true) ∧ Below w.heap.size w w' := by
  have hE : ∀ d p q O s w', Sto w w' p d O 64 s (Xb 64) q [] → Calls Tryz.prog 44 #[.pointer (some ⟨p, 0, none⟩), .int .i64 n] w' (Errs w' 7) := fun d p q O s w' h => by
    obtain ⟨k, rfl⟩ : ∃ k : Nat, n = (k : Int) := ⟨n.toNat, by omega⟩
    have e := free_node (N := 64) (n := k) (by omega) (by omega) (by omega) (by omega)
    have hg := D.good_img zeroN_ok
    have := node_yes (n := k) h (by omega) (by rw [e]; exact hg.1)
    rw [e, hg.2] at this
    exact open_free this rfl
  have hn0 : ¬ n < 0 := by omega
  have hn3 : ¬ 31 < n := by omega
  have hn1 : (n == 1) = false := by rw [beq_eq_false_iff_ne]; exact hn.2.2
  clear hn
  go_enter Tryz.func5, Tryz.ntmps5
  go_wp2_with fail
  refine (begin_any 64 w (by omega) (by omega)).mono ?_
  rintro e w1 ⟨d, p, q, O, s, rfl, h1⟩
  have H1 := Lib.hid h1
  clear h1
  go_wp2_with fail
  refine (awake_any w1).mono ?_
  rintro e w2 ⟨rfl, hb⟩
  have H2 := Lib.hid (H1.out.below hb)
  clear hb H1
  go_wp2_with fail
  refine (read_err (open_nil n w2) rfl a z).mono ?_
  rintro e w3 ⟨rfl, hb⟩
  have H3 := Lib.hid (H2.out.below hb)
  clear hb H2
  go_wp2_with fail
  refine (sectors_err (open_nil n w3) rfl).mono ?_
  rintro e w4 ⟨rfl, hb⟩
  have H4 := Lib.hid (H3.out.below hb)
  clear hb H3
  go_wp2_with fail
  refine (write_err (open_nil n w4) rfl a A l c).mono ?_
  rintro e w5 ⟨rfl, hb⟩
  have H5 := Lib.hid (H4.out.below hb)
  clear hb H4
  go_wp2_with fail
  refine (trunc_err (open_nil n w5) rfl z).mono ?_
  rintro e w6 ⟨rfl, hb⟩
  have H6 := Lib.hid (H5.out.below hb)
  clear hb H5
  go_wp2_with fail
  refine (read_err (hE _ _ _ _ _ _ H6.out) rfl a z).mono ?_
  rintro e w7 ⟨rfl, hb⟩
  have H7 := Lib.hid (H6.out.below hb)
  clear hb H6
  go_wp2_with fail
  refine (sectors_err (hE _ _ _ _ _ _ H7.out) rfl).mono ?_
  rintro e w8 ⟨rfl, hb⟩
  have H8 := Lib.hid (H7.out.below hb)
  clear hb H7
  go_wp2_with fail
  refine (write_err (hE _ _ _ _ _ _ H8.out) rfl a A l c).mono ?_
  rintro e w9 ⟨rfl, hb⟩
  have H9 := Lib.hid (H8.out.below hb)
  clear hb H8
  go_wp2_with fail
  refine (trunc_err (hE _ _ _ _ _ _ H9.out) rfl z).mono ?_
  rintro e w10 ⟨rfl, hb⟩
  have H10 := Lib.hid (H9.out.below hb)
  clear hb H9
  go_wp2_with fail
  refine (T.ints_any (T.Ints.nil_ w10 w10.heap.size) (T.Ints.nil_ w10 w10.heap.size)).mono ?_
  rintro e w11 ⟨rfl, hb⟩
  have H11 := Lib.hid (H10.out.below hb)
  clear hb H10
  go_wp2_with fail
  go_ret
  exact ⟨rfl, H11.out.ons.sit.bel⟩

set_option maxHeartbeats 4000000 in
theorem none_root (n a z : Int) (A : Option Addr) (l c : Nat) (w : World) (hn : n = 1) : Calls Tryz.prog 5 #[.int .i64 n, .int .i64 a, .int .i64 z, .slice A l c] w fun e w' => e = .returned (.bool true) ∧ Below w.heap.size w w' := by
  obtain rfl := hn
  go_enter Tryz.func5, Tryz.ntmps5
  go_wp2_with fail
  refine (begin_any 64 w (by omega) (by omega)).mono ?_
  rintro e w1 ⟨d, p, q, O, s, rfl, h1⟩
  have H1 := Lib.hid h1
  clear h1
  go_wp2_with fail
  refine (awake_any w1).mono ?_
  rintro e w2 ⟨rfl, hb⟩
  have H2 := Lib.hid (H1.out.below hb)
  clear hb H1
  go_wp2_with fail
  refine (read_err (open_nil 1 w2) rfl a z).mono ?_
  rintro e w3 ⟨rfl, hb⟩
  have H3 := Lib.hid (H2.out.below hb)
  clear hb H2
  go_wp2_with fail
  refine (sectors_err (open_nil 1 w3) rfl).mono ?_
  rintro e w4 ⟨rfl, hb⟩
  have H4 := Lib.hid (H3.out.below hb)
  clear hb H3
  go_wp2_with fail
  refine (write_err (open_nil 1 w4) rfl a A l c).mono ?_
  rintro e w5 ⟨rfl, hb⟩
  have H5 := Lib.hid (H4.out.below hb)
  clear hb H4
  go_wp2_with fail
  refine (trunc_err (open_nil 1 w5) rfl z).mono ?_
  rintro e w6 ⟨rfl, hb⟩
  have H6 := Lib.hid (H5.out.below hb)
  clear hb H5
  go_wp2_with fail
  go_ret
  exact ⟨rfl, H6.out.ons.sit.bel⟩

theorem spaceNone.walk (W : World) (n : Int) (hn : -9223372036854775808 ≤ n ∧ n ≤ 9223372036854775807) (a : Int) (ha : -9223372036854775808 ≤ a ∧ a ≤ 9223372036854775807) (z : Int) (hz : -9223372036854775808 ≤ z ∧ z ≤ 9223372036854775807) (A : Option Addr) (l c : Nat) (bs : List UInt8) (hB : F.Bts W W.heap.size A l c bs) :
    Calls Tryz.prog 5 #[.int .i64 n, .int .i64 a, .int .i64 z, .slice A l c] W fun e w' => e = .returned (.bool true) ∧ Below W.heap.size W w' := by
  by_cases h0 : n < 0
  · exact none_low n a z A l c W h0
  · by_cases h1 : 31 < n
    · exact none_high n a z A l c W h1
    · by_cases h2 : n = 1
      · exact none_root n a z A l c W h2
      · exact none_free n a z A l c W ⟨by omega, by omega, h2⟩
end Go.Proofs.YtijbgdihnjnllaaGreat.V
