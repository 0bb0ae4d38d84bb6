/- The law SpacePlays, walked. -/
import Derived.Test.YtijbgdihnjnllaaGreatVTold
import Derived.Test.YtijbgdihnjnllaaGreatVPlayR
import Derived.Test.YtijbgdihnjnllaaGreatVPlayA
import Derived.Test.YtijbgdihnjnllaaGreatVPlayB
import Derived.Test.YtijbgdihnjnllaaGreatVPlayC
import Derived.Test.YtijbgdihnjnllaaGreatVAwake
namespace Go.Proofs.YtijbgdihnjnllaaGreat.V
open Go.RowKit
set_option linter.unusedVariables false
set_option maxRecDepth 20000
theorem play_any {w0 w : World} {b p d q N : Nat} {x0 x1 x2 x3 : Int} {A : Option Addr} {n c : Nat} {xs : List UInt8} (h : PInv w0 w b p d q N) (hx : I64 x1) (hB : F.Bts w0 w0.heap.size A n c xs) :
    Calls Tryz.prog 10 #[.pointer (some ⟨b, 0, none⟩), .agg #[.int .i64 x0, .int .i64 x1, .int .i64 x2, .int .i64 x3, .slice A n c], .int .i64 (N : Int)] w fun e w' => e = .returned (.bool true) ∧ PInv w0 w' b p d q N := by
  by_cases h0 : x0 = 0
  · subst h0
    by_cases hl : 600 < n
    · exact play_big h hx hl
    · by_cases q1 : x2 < 0
      · exact play_neg h hx hB (by omega) q1
      · by_cases hn : n = 0
        · by_cases q2 : 9728 < x2
          · exact play_nil_no h hx hB (by omega) hn (by omega) q2
          · exact play_nil_yes h hx hB (by omega) hn (by omega) (by omega)
        · by_cases q2 : 9728 - (n : Int) < x2
          · exact play_large h hx hB (by omega) (by omega) q2 (by omega)
          · obtain ⟨a, rfl⟩ : ∃ a : Nat, x2 = (a : Int) := ⟨x2.toNat, by omega⟩
            exact play_do h hx hB (by omega) (by omega) (by omega)
  · by_cases h1 : x0 = 1
    · subst h1
      exact play_trunc h hx
    · exact play_read h h0 h1 hx
theorem PInv.below {w0 w w' : World} {b p d q N : Nat} (h : PInv w0 w b p d q N) (hb : Below w.heap.size w w') : PInv w0 w' b p d q N := by
  obtain ⟨O, s, X, y, f, C, G, hs, hf, hm, hp⟩ := h
  exact ⟨O, s, X, y, f, C, G, hs.below hb, hf, hm.keep (hb.block b hm.lt), hp⟩
theorem PInv.bel {w0 w : World} {b p d q N : Nat} (h : PInv w0 w b p d q N) : Below w0.heap.size w0 w := by
  obtain ⟨O, s, X, y, f, C, G, hs, hf, hm, hp⟩ := h
  exact hs.ons.sit.bel
set_option maxHeartbeats 4000000 in
theorem spacePlays.walk (w : World) (x : Int) (hx : 0 ≤ x ∧ x ≤ 255) (A : Option Addr) (n c : Nat) (l : List SStep) (hB : Stps w w.heap.size A n c l) : Calls Tryz.prog 3 #[.int .u8 x, .slice A n c] w fun e w' => e = .returned (.bool true) ∧ Below w.heap.size w w' := by
  obtain ⟨N, rfl⟩ : ∃ N : Nat, x = (N : Int) - 64 := ⟨(x + 64).toNat, by omega⟩
  have HST := Lib.hid hB
  have hcap := hB.cap
  have hlim := hB.lim
  unfold maxLen at hlim
  clear hB
  have hN : (64 : Int) + ((N : Int) - 64) = N := by omega
  go_enter Tryz.func3, Tryz.ntmps3
  go_wp2_with fail
  refine (start_any N w (by omega) (by omega)).mono ?_
  rintro e w1 ⟨b, p, d, q, rfl, h1⟩
  have H1 := Lib.hid h1
  clear h1
  go_wp2_with fail
  refine (awake_any w1).mono ?_
  rintro e w2 ⟨rfl, hb⟩
  have H2 := Lib.hid (H1.out.below hb)
  clear hb H1
  go_wp2_with fail
  go_loopw [7] (fun i wr => ∃ j : Nat, j ≤ n ∧ i = .int .i64 j ∧ Hid (PInv w wr b p d q N)) (fun i _ => n - (intOf i).toNat)
  case atStart => exact ⟨0, Nat.zero_le _, rfl, H2.out⟩
  case round =>
    clear H2
    obtain ⟨j, hj, rfl, HP⟩ := hrel
    by_cases hlt : j < n ∧ j < 30
    · obtain ⟨h1, h2⟩ := hlt
      obtain ⟨b', off, rfl, hbB, hc⟩ := HST.out.at_ (by omega)
      obtain ⟨x, hx⟩ : ∃ x, l[j]? = some x := ⟨_, List.getElem?_eq_getElem (by rw [HST.out.len]; exact h1)⟩
      obtain ⟨A', n', c', k1, k2, k3, k4, k5, k6, _, i1, _, _⟩ := hc j x hx
      have hbel := HP.out.bel
      have k1 := (hbel.cell (p := ⟨b', _, none⟩) hbB).trans k1
      have k2 := (hbel.cell (p := ⟨b', _, none⟩) hbB).trans k2
      have k3 := (hbel.cell (p := ⟨b', _, none⟩) hbB).trans k3
      have k4 := (hbel.cell (p := ⟨b', _, none⟩) hbB).trans k4
      have k5 := (hbel.cell (p := ⟨b', _, none⟩) hbB).trans k5
      obtain ⟨x0, x1, x2, x3, xs⟩ := x
      have HPL := Lib.hid (play_any (x0 := x0) (x2 := x2) (x3 := x3) HP.out i1 k6)
      clear hc hx k6 i1 hbel
      simp only at k1 k2 k3 k4 k5
      go_wp2_with fail
      refine HPL.out.mono ?_
      rintro e w3 ⟨rfl, h3⟩
      have H3 := Lib.hid h3
      clear h3 HPL HP k1 k2 k3 k4 k5
      go_wp2_with fail
      refine (told_any H3.out).mono ?_
      rintro e w4 ⟨rfl, hb⟩
      have H4 := Lib.hid (H3.out.below hb)
      clear hb H3
      go_wp2_with fail
      go_roundw
      case rel => exact ⟨j + 1, by omega, by go_num, H4.out⟩
      case measure => simp [intOf]; omega
    · by_cases h1 : j < n
      · have h2 : ¬ j < 30 := fun h => hlt ⟨h1, h⟩
        clear hlt
        have HE := Lib.hid HP.out.bel
        clear HP
        go_wp2_with fail
        go_ret
        exact ⟨rfl, HE.out⟩
      · clear hlt
        have HE := Lib.hid HP.out.bel
        clear HP
        go_wp2_with fail
        go_ret
        exact ⟨rfl, HE.out⟩
end Go.Proofs.YtijbgdihnjnllaaGreat.V
