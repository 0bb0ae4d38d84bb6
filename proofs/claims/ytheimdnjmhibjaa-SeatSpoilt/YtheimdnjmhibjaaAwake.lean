/- copyholdlaw08.awake, walked. -/
import Derived.Test.YtheimdnjmhibjaaDecB
import Derived.Test.YtheimdnjmhibjaaFate
import Derived.Test.YtheimdnjmhibjaaRefE
namespace Go.Proofs.Ytheimdnjmhibjaa
open Go.RowKit
set_option linter.unusedVariables false

theorem x_bts (w : World) (fr : Nat × Nat) : F.Bts (w.alloc (.cells #[.int .u8 120] 5 fr)) (w.heap.size + 1) (some ⟨w.heap.size, 0, none⟩) 1 1 [120] :=
  ⟨rfl, Nat.le_refl _, by decide, (fun e => by cases e), fun _ => ⟨w.heap.size, 0, rfl, by omega, fun j hj => by
    have h1 := World.cell?_alloc_mark w #[.int .u8 120] 5 fr j
    rw [Nat.zero_add]
    refine h1.trans ?_
    match j, hj with
    | 0, _ => rfl⟩⟩
theorem encX {w : World} {B n c : Nat} {A : Option Addr} (h : F.Bts w B A n c [120]) (hB : B ≤ w.heap.size) : Calls Try.prog 7 #[.agg #[.int .i64 3, .int .i64 4, .slice A n c]] w (F.Gives2 w (sec 3 4 [120])) :=
  encode_yes 3 4 A n c B [120] w h hB (by rw [← h.len]; decide)
theorem decX {w : World} {B n cap : Nat} {A : Option Addr} (h : F.Bts w B A n cap (sec 3 4 [120])) (hB : B ≤ w.heap.size) : Calls Try.prog 11 #[.slice A n cap] w fun e w' => ∃ A n c, e = .returned (.tuple #[.agg #[.int .i64 3, .int .i64 4, .slice A n c], .int .i64 0]) ∧ F.Bts w' w'.heap.size A n c [120] ∧ Below w.heap.size w w' := decode_sec h hB (by decide)
theorem soundX (A : Option Addr) (c : Nat) (w : World) : Calls Try.prog 9 #[.agg #[.int .i64 3, .int .i64 4, .slice A 1 c]] w fun e w' => e = .returned (.bool true) ∧ Below w.heap.size w w' := by
  have := sound_any 3 4 A 1 c w
  have e : ok 3 4 1 = true := by decide
  rwa [e] at this
theorem fate35 (A : Option Addr) (c : Nat) (w : World) : Calls Try.prog 14 #[.agg #[.int .i64 3, .int .i64 4, .slice A 1 c], .bool false, .int .i64 3, .int .i64 5] w fun e w' => e = .returned (.int .i64 1) ∧ Below w.heap.size w w' := by
  have := fate_any 3 4 A 1 c false 3 5 w
  have e : fate 3 4 false 3 5 = 1 := by decide
  rwa [e] at this
theorem fate40 (A : Option Addr) (c : Nat) (w : World) : Calls Try.prog 14 #[.agg #[.int .i64 3, .int .i64 4, .slice A 1 c], .bool true, .int .i64 4, .int .i64 0] w fun e w' => e = .returned (.int .i64 3) ∧ Below w.heap.size w w' := by
  have := fate_any 3 4 A 1 c true 4 0 w
  have e : fate 3 4 true 4 0 = 3 := by decide
  rwa [e] at this
set_option maxRecDepth 20000 in
set_option maxHeartbeats 1000000 in
theorem awake_any (w : World) : Calls Try.prog 13 #[] w fun e w' => e = .returned (.bool true) ∧ Below w.heap.size w w' := by
  have hcv := Lib.run_convert_bytes_const (P := Try.prog) w 22 5 #[.int .u8 120] 1 1 Try.underlying22 Try.underlying5
  go_enter Try.func13, Try.ntmps13
  go_wp2_with fail
  clear hcv
  refine (encX (x_bts w (1, 2)) (by simp)).mono ?_
  rintro e w1 ⟨v, rfl, hm⟩
  obtain ⟨A, n, c, rfl, hb⟩ := hm.holds
  have hn : n = 128 := by rw [← hb.len, sec_len _ _ (by decide)]
  subst hn
  have H := Lib.hid hb
  have HM : Hid (Below w.heap.size w w1) := (box_below w _).trans (hm.bel.mono (by simp))
  clear hb hm
  go_wp2_with fail
  refine (decX H.out (Nat.le_refl _)).mono ?_
  rintro e w2 ⟨A2, n2, c2, rfl, h2, hb2⟩
  have HB2 := Lib.hid (HM.out.trans (hb2.mono HM.out.size))
  obtain rfl : n2 = 1 := h2.len.symm
  have hcv : ∀ o, (convert 22 9 (.slice A2 1 c2)).run Try.prog (w2.alloc o) = .ok (.string (sb [120])) (w2.alloc o) := fun o => fstr h2 _ (box_below w2 o)
  have hl : (sb [120]).toList = [120] := sb_toList _
  clear h2 hb2
  go_wp2_with fail
  clear hcv hl
  have hs : (w2.alloc (Obj.cells #[.int .i64 3, .int .i64 4, .slice A2 1 c2] 24)).heap.size = w2.heap.size + 1 := by simp
  refine (soundX A2 c2 _).mono ?_
  rintro e w3 ⟨rfl, hb3⟩
  rw [hs] at hb3
  have HB3 := Lib.hid hb3
  obtain ⟨l0, l1, l2⟩ := cell3 w2 (.int .i64 3) (.int .i64 4) (.slice A2 1 c2) 24 w2.heap.size rfl w3 HB3.out
  clear hb3
  go_wp2_with fail
  refine (fate35 A2 c2 _).mono ?_
  rintro e w4 ⟨rfl, hb4⟩
  have HB4 := Lib.hid (HB3.out.trans (hb4.mono (by have := HB3.out.size; omega)))
  clear hb4 l0 l1 l2 HB3
  obtain ⟨l0, l1, l2⟩ := cell3 w2 (.int .i64 3) (.int .i64 4) (.slice A2 1 c2) 24 w2.heap.size rfl w4 HB4.out
  go_wp2_with fail
  refine (fate40 A2 c2 _).mono ?_
  rintro e w5 ⟨rfl, hb5⟩
  have HB5 := Lib.hid (HB4.out.trans (hb5.mono (by have := HB4.out.size; omega)))
  clear hb5 l0 l1 l2 HB4
  go_wp2_with fail
  go_ret
  exact ⟨rfl, HB2.out.trans ((box_below w2 _).trans (HB5.out.mono (by omega)) |>.mono HB2.out.size)⟩
end Go.Proofs.Ytheimdnjmhibjaa
