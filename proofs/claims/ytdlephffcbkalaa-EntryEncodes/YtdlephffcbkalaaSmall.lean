/- ref.Noughts, ref.Little, Sound, ref.Sound, bytes.Equal, walked. -/
import Derived.Test.YtdlephffcbkalaaMem
import Derived.Test.YtdlephffcbkalaaName
namespace Go.Proofs.Ytdlephffcbkalaa
open Go.RowKit
set_option linter.unusedVariables false

def z (k : Nat) : List UInt8 := List.replicate k 0
theorem z_succ (k : Nat) : bs (z k) ++ ({ data := #[0] } : ByteArray) = bs (z (k + 1)) := by
  have e : ({ data := #[0] } : ByteArray) = bs [0] := rfl
  rw [e, bs_app]
  unfold z
  rw [List.replicate_succ']
theorem z_size (k : Nat) : (bs (z k)).size = k := by rw [bs_size]; exact List.length_replicate
set_option maxHeartbeats 1000000 in
theorem noughts_any (n : Nat) (w : World) (hn : n ≤ 1000) : Calls Try.prog 22 #[.int .i64 n] w fun e w' => e = .returned (.string (bs (z n))) ∧ w = w' := by
  have HZ : ∀ k, Hid (bs (z k) ++ ({ data := #[0] } : ByteArray) = bs (z (k + 1))) := z_succ
  go_enter Try.func22, Try.ntmps22
  go_wp2
  go_loop [3] (fun s => ∃ k : Nat, k ≤ n ∧ s = .string (bs (z k))) (fun s => n - (match s with | .string b => b.size | _ => 0))
  case atStart => exact ⟨0, Nat.zero_le _, rfl⟩
  case round =>
    obtain ⟨k, hk, rfl⟩ := hrel
    have hz := z_size k
    by_cases hlt : k < n
    · have hlt' : (k : Int) < (n : Int) := by omega
      have h63 : ¬ 9223372036854775807 < k + 1 := by omega
      go_wp2
      go_round
      case rel => exact ⟨k + 1, by omega, by rw [(HZ k).out]⟩
      case measure =>
        rw [(HZ k).out]
        simp only [z_size]
        omega
    · obtain rfl : k = n := by omega
      go_wp2
      go_ret
      exact ⟨rfl, rfl⟩
def lit : Nat → Nat → List UInt8
  | 0, _ => []
  | k + 1, n => lit k n ++ [UInt8.ofNat (n / 256 ^ k)]
theorem lit_len (k n : Nat) : (lit k n).length = k := by
  induction k with
  | zero => rfl
  | succ k ih => simp [lit, ih]
set_option maxRecDepth 20000 in
set_option maxHeartbeats 1000000 in
theorem little_any (n k : Nat) (w : World) (hn : n ≤ 4294967296) (hk : k ≤ 4) :
    Calls Try.prog 23 #[.int .i64 n, .int .i64 k] w fun e w' => e = .returned (.string (bs (lit k n))) ∧ Below w.heap.size w w' := by
  go_enter Try.func23, Try.ntmps23
  go_wp2
  go_loopw [0, 5, 6] (fun x s i wr => ∃ m q : Nat, m ≤ k ∧ q ≤ 4294967296 ∧ Hid (q = n / 256 ^ m) ∧ i = .int .i64 m ∧ x = .int .i64 q ∧ s = .string (bs (lit m n)) ∧ Below w.heap.size w wr) (fun _ _ i _ => k - (intOf i).toNat)
  case atStart => exact ⟨0, n, Nat.zero_le _, hn, by simp [Hid], rfl, rfl, rfl, Below.refl _ _⟩
  case round =>
    obtain ⟨m, q, hm, hq, Hq, rfl, rfl, rfl, hb⟩ := hrel
    by_cases hlt : m < k
    · have hll : (bs (lit m n)).size = m := by rw [bs_size, lit_len]
      have hl1 : (bs [UInt8.ofNat q]).size = 1 := rfl
      have hl63 : ¬ 9223372036854775807 < m + 1 := by omega
      have hs1 := str1 wr ((q : Int) % 256) (UInt8.ofNat q) (by rw [UInt8.toNat_ofNat']; omega)
      go_wp2
      go_roundw
      case rel =>
        refine ⟨m + 1, q / 256, by omega, by omega, ?_, by go_num, by go_num, ?_, ?_⟩
        · show q / 256 = n / 256 ^ (m + 1)
          rw [Hq.out, Nat.div_div_eq_div_mul, Nat.pow_succ]
        · rw [bs_app, Hq.out]
          rfl
        · exact hb.alloc hb.size _
      case measure => simp [intOf]; omega
    · obtain rfl : m = k := by omega
      go_wp2
      go_ret
      exact ⟨rfl, hb⟩
theorem equal_any {w : World} {B B' n c n' c' : Nat} {A A' : Option Addr} {l l' : List UInt8} (h : Bts w B A n c l) (h' : Bts w B' A' n' c' l') :
    Calls Try.prog 26 #[.slice A n c, .slice A' n' c'] w fun e w' => e = .returned (.bool (decide (l = l'))) ∧ w = w' := by
  have h1 := fstr h w (Below.refl _ _)
  have h2 := fstr h' w (Below.refl _ _)
  have HE := Lib.hid (bs_two l l')
  clear h h'
  go_enter Try.func26, Try.ntmps26
  go_wp2_with fail
  go_ret
  exact ⟨retb HE.out, rfl⟩
theorem pName (l : List UInt8) (w : World) : Calls Try.prog 24 #[.string (bs l)] w fun e w' => e = .returned (.bool (nameB l)) ∧ Below w.heap.size w w' := pathName_any (bs l) w
theorem rName (l : List UInt8) (w : World) : Calls Try.prog 25 #[.string (bs l)] w fun e w' => e = .returned (.bool (nameB l)) ∧ w = w' := refName_any (bs l) w
/-- The cells of an entry that lies in a block of its own. -/
theorem ent_cells (w : World) (r : Rw) (g : Nat) (hg : g = w.heap.size) (W : World) (hW : Below (w.heap.size + 1) (w.alloc (.cells #[.string (bs r.1), .int .i64 r.2] 23)) W) :
    W.cell? ⟨g, 0, none⟩ = some (.string (bs r.1)) ∧ W.cell? ⟨g, 1, none⟩ = some (.int .i64 r.2) := by
  subst hg
  rw [hW.cell (p := ⟨w.heap.size, 0, none⟩) (by simp), hW.cell (p := ⟨w.heap.size, 1, none⟩) (by simp)]
  exact ⟨World.cell?_alloc_mark w _ 23 (0, 0) 0, World.cell?_alloc_mark w _ 23 (0, 0) 1⟩
theorem sound_any (a : List UInt8) (x : Int) (w : World) : Calls Try.prog 10 #[.agg #[.string (bs a), .int .i64 x]] w fun e w' => e = .returned (.bool (sound (a, x))) ∧ Below w.heap.size w w' := by
  obtain ⟨o, ho⟩ : ∃ o, sound (a, x) = o := ⟨_, rfl⟩
  rw [ho]
  have HO := Lib.hid ho
  obtain ⟨q, hq⟩ : ∃ q, nameB a = q := ⟨_, rfl⟩
  have HQ := Lib.hid hq
  clear ho hq
  go_enter Try.func10, Try.ntmps10
  go_wp2_with fail
  refine (pName a _).mono ?_
  rintro e w1 ⟨rfl, hb⟩
  obtain ⟨c0, c1⟩ := ent_cells w (a, x) w.heap.size rfl w1 (hb.mono (by simp))
  have HB : Hid (Below w.heap.size w w1) := (box_below w _).trans (hb.mono (by simp))
  clear hb
  rw [HQ.out]
  dsimp only at c0 c1
  cases q with
  | false =>
    obtain rfl : o = false := by
      rw [← HO.out]
      unfold sound
      simp [HQ.out]
    go_wp2_with fail
    go_ret
    exact ⟨rfl, HB.out⟩
  | true =>
    by_cases h1 : 1 ≤ x
    · by_cases h2 : x < 32
      · obtain rfl : o = true := by
          rw [← HO.out]
          exact sound_iff.2 ⟨HQ.out, h1, by show x ≤ 31; omega⟩
        go_wp2_with fail
        go_ret
        exact ⟨rfl, HB.out⟩
      · obtain rfl : o = false := by
          rw [← HO.out, Bool.eq_false_iff]
          intro h
          have := (sound_iff.1 h).2.2
          dsimp only at this
          omega
        have h2' : decide (x < 32) = false := by simp; omega
        go_wp2_with fail
        go_ret
        exact ⟨rfl, HB.out⟩
    · obtain rfl : o = false := by
        rw [← HO.out, Bool.eq_false_iff]
        intro h
        have := (sound_iff.1 h).2.1
        dsimp only at this
        omega
      have h1' : decide (1 ≤ x) = false := by simp; omega
      go_wp2_with fail
      go_ret
      exact ⟨rfl, HB.out⟩
theorem refSound_any (a : List UInt8) (x : Int) (w : World) : Calls Try.prog 11 #[.agg #[.string (bs a), .int .i64 x]] w fun e w' => e = .returned (.bool (sound (a, x))) ∧ Below w.heap.size w w' := by
  obtain ⟨o, ho⟩ : ∃ o, sound (a, x) = o := ⟨_, rfl⟩
  rw [ho]
  have HO := Lib.hid ho
  obtain ⟨q, hq⟩ : ∃ q, nameB a = q := ⟨_, rfl⟩
  have HQ := Lib.hid hq
  clear ho hq
  go_enter Try.func11, Try.ntmps11
  go_wp2_with fail
  refine (rName a _).mono ?_
  rintro e w1 ⟨rfl, hw1⟩
  obtain ⟨c0, c1⟩ := ent_cells w (a, x) w.heap.size rfl w1 (by rw [← hw1]; exact Below.refl _ _)
  have HB : Hid (Below w.heap.size w w1) := by rw [← hw1]; exact box_below w _
  clear hw1
  rw [HQ.out]
  dsimp only at c0 c1
  cases q with
  | false =>
    obtain rfl : o = false := by
      rw [← HO.out]
      unfold sound
      simp [HQ.out]
    go_wp2_with fail
    go_ret
    exact ⟨rfl, HB.out⟩
  | true =>
    by_cases h1 : 1 ≤ x
    · by_cases h2 : x ≤ 31
      · obtain rfl : o = true := by
          rw [← HO.out]
          exact sound_iff.2 ⟨HQ.out, h1, h2⟩
        go_wp2_with fail
        go_ret
        exact ⟨rfl, HB.out⟩
      · obtain rfl : o = false := by
          rw [← HO.out, Bool.eq_false_iff]
          intro h
          have := (sound_iff.1 h).2.2
          dsimp only at this
          omega
        have h2' : decide (x ≤ 31) = false := by simp; omega
        go_wp2_with fail
        go_ret
        exact ⟨rfl, HB.out⟩
    · obtain rfl : o = false := by
        rw [← HO.out, Bool.eq_false_iff]
        intro h
        have := (sound_iff.1 h).2.1
        dsimp only at this
        omega
      have h1' : decide (1 ≤ x) = false := by simp; omega
      go_wp2_with fail
      go_ret
      exact ⟨rfl, HB.out⟩
end Go.Proofs.Ytdlephffcbkalaa
