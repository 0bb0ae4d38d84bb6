/- 'awake', walked. -/
import Derived.Test.YtijbgdihnjnllaaGreatVLaw
namespace Go.Proofs.YtijbgdihnjnllaaGreat.V
open Go.RowKit
set_option linter.unusedVariables false
set_option maxRecDepth 20000
theorem np_awake : T.np 700 3 = 1 := rfl
theorem m1_keys (N ep g k : Nat) : ∀ x ∈ keys (m1 N ep g k), x = 0 ∨ x = 35 := fun x hx => by
  rcases mem_keys_ins (k := 35) hx with h | h
  · exact .inr h
  · rcases mem_keys_ins (k := 0) h with h | h
    · exact .inl h
    · exact absurd h (by simp [keys])
theorem bts_lit (W : World) (l : List UInt8) (fr : Nat × Nat) (hl : l.length ≤ 1000) : Bts (W.alloc (.cells (l.map F.bv).toArray 5 fr)) (fun b => b = W.heap.size) (some ⟨W.heap.size, 0, none⟩) l.length l.length l :=
  ⟨rfl, Nat.le_refl _, by unfold maxLen; omega, fun h0 => ⟨W.heap.size, 0, rfl, rfl, fun j v hj => by
    rw [Nat.zero_add, World.cell?_alloc_mark]
    rw [bc] at hj
    simpa [F.bv] using hj⟩⟩
theorem aw_path : ∀ j, j < T.np 700 3 → ∀ i ∈ path (nb 700 j), i ∈ [4, 7] := fun j hj i hi => by
  rw [np_awake] at hj
  obtain rfl : j = 0 := by omega
  exact hi
set_option maxHeartbeats 4000000 in
theorem awake_any (w : World) : Calls Tryz.prog 9 #[] w fun e w' => e = .returned (.bool true) ∧ Below w.heap.size w w' := by
  go_enter Tryz.func9, Tryz.ntmps9
  go_wp2_with fail
  refine (begin_any 100 w (by omega) (by omega)).mono ?_
  rintro e w1 ⟨d, p, q, O, s, rfl, h1⟩
  have H1 := Lib.hid h1
  have HS := Lib.hid (Xb_std (N := 100) (by omega) (by omega))
  clear h1
  go_wp2_with fail
  refine (new_std (k := 1) H1.out HS.out (by decide) (by omega) (.inl rfl)).mono ?_
  rintro e w2 ⟨rfl, h2, _⟩
  have H2 := Lib.hid h2
  have HF := Lib.hid (fl_m1 (N := 100) (gN := by omega) (by omega) HS.out (by omega))
  clear h2 H1
  have HBU : Hid (Bud [0, 34, 35] [4, 7] (m1 100 1 0 1) (fun _ => 0)) := ⟨fun k hk => by rcases m1_keys _ _ _ _ k hk with rfl | rfl <;> simp, by simp, by simp⟩
  obtain ⟨b0, b1, b2⟩ := D.box1 w2 (Obj.cells #[.int .u8 120, .int .u8 121, .int .u8 122] 5 (3, 4))
  have HW := Lib.hid (write_yes (nn := 2) (a := 700) (n := 3) (c := 3) (l := [120, 121, 122]) (H2.out.below b1) HF.out (by omega) HBU.out (by simp) (by omega) (by omega) (bts_lit w2 [120, 121, 122] (3, 4) (by simp)) (fun b hb => by subst hb; exact ⟨by omega, by have := H2.out.map.lt; omega⟩)
    aw_path)
  have kc := fun (w : World) (C : Array Value) (n c : Nat) => Lib.run_convert_bytes_const (P := Tryz.prog) w 27 5 C n c Tryz.underlying27 Tryz.underlying5
  clear b0 b1 b2
  rw [show ((2 : Nat) : Int) = 2 from rfl, show ((700 : Nat) : Int) = 700 from rfl] at HW
  go_wp2_with fail
  refine HW.out.mono ?_
  rintro e w3 (⟨rfl, m3, y3, f3, haft, hsz, hext, hnew, hall⟩ | ⟨rfl, ⟨bf, m3, hno⟩, _⟩)
  case inr => exact absurd hno (FNo.not (Tx := [4, 7]) List.nodup_nil aw_path (.inl (by rw [nzn_zero]; simp)))
  have HS3 := Lib.hid haft.sto
  have HF3 := Lib.hid haft.fl
  have HB3 := Lib.hid haft.bud
  have hsz3 : y3.s = 703 := hsz
  have h7 : f3 7 ≠ 0 := hall 0 (by rw [np_awake]; omega)
  have h4 : f3 4 ≠ 0 := fun e => h7 (haft.fl.mid.rep.none_ 4 (.inl rfl) e 1 (by omega))
  have HN3 : Hid (nzn f3 = 2) := nzn_perm (T := [4, 7]) (by decide) fun i => ⟨fun ⟨_, hi⟩ => (hnew i hi).elim (fun h => absurd rfl h) (fun ⟨j, hj, hi⟩ => aw_path j hj i hi), fun hi => by
      simp at hi
      rcases hi with rfl | rfl
      · exact ⟨by omega, h4⟩
      · exact ⟨by omega, h7⟩⟩
  clear haft hsz hext hnew hall h7 h4 HW H2 HF HBU
  have HR := Lib.hid (read_yes (a := 698) (z := 9) (s' := 5) (HF3.out.open_ HS3.out (by omega)) HS3.out HF3.out.mid HF3.out.con (by omega) (by omega) (by omega) (by omega) (by omega))
  rw [show ((2 : Nat) : Int) = 2 from rfl, show ((698 : Nat) : Int) = 698 from rfl, show ((9 : Nat) : Int) = 9 from rfl, show byt (ovr (fun _ => 0) 700 [120, 121, 122] 3) 698 5 = [0, 0, 120, 121, 122] from rfl] at HR
  go_wp2_with fail
  refine HR.out.mono ?_
  rintro e w4 ⟨A, n, c, rfl, hbt, hbl⟩
  obtain rfl : n = 5 := by have := hbt.len; simpa using this.symm
  have HBT := Lib.hid hbt
  have HS4 := Lib.hid (HS3.out.below hbl)
  have HSE := Lib.hid (sectors_yes (HF3.out.open_ HS4.out (by omega)) HS4.out HF3.out.mid HF3.out.con)
  rw [show ((2 : Nat) : Int) = 2 from rfl] at HSE
  clear hbt hbl HR
  go_wp2_with fail
  refine HSE.out.mono ?_
  rintro e w5 ⟨A2, c2, L, rfl, hin, _, hpm, hbl⟩
  have hll : L.length = 2 := by rw [hpm.length_eq]; unfold nzl; rw [List.length_map]; exact HN3.out
  rw [hll]
  have hst := HBT.out.str w5 (fun p hp => hbl.cell hp)
  have HS5 := Lib.hid (HS4.out.below hbl)
  have hkl := HB3.out.len_le HS5.out.mok.rise
  have HTR := Lib.hid (trunc_yes (size := 0) (B := 0) HS5.out HF3.out (by omega) (Bud.all (k := ((35 + 2 / 4 : Nat) : Int)) HS5.out.mok.rise (by simp at hkl; omega) _) (by simp) (by omega) rfl
    (fun p hp h0 => absurd (cutF_0 f3 p (px_lt hp)) h0) (fun i h1 h2 => absurd h2 (by omega)))
  rw [show ((2 : Nat) : Int) = 2 from rfl, show ((0 : Nat) : Int) = 0 from rfl] at HTR
  clear hin hpm hbl hll hkl HSE HBT
  go_wp2_with fail
  refine HTR.out.mono ?_
  rintro e w6 ⟨rfl, m6, y6, haft, _⟩
  have HS6 := Lib.hid haft.sto
  have hcn := count_mid haft.fl.mid List.nodup_nil
  have hz : nzn (cutF 0 f3) = 0 := nzn_perm (T := []) List.nodup_nil fun i => ⟨fun ⟨h1, h2⟩ => absurd (cutF_0 f3 i h1) h2, fun h => absurd h (by simp)⟩
  rw [hz] at hcn
  have HFR := Lib.hid (free_any HS6.out)
  rw [hcn] at HFR
  rw [show ((100 - 43 - (0 + ([] : List Nat).length) : Nat) : Int) = 57 from rfl] at HFR
  clear haft hcn hz HTR hst
  go_wp2_with fail
  refine HFR.out.mono ?_
  rintro e w7 ⟨rfl, hb⟩
  have HB := Lib.hid (HS6.out.below hb)
  clear hb
  go_wp2_with fail
  go_ret
  exact ⟨rfl, HB.out.ons.sit.bel⟩
end Go.Proofs.YtijbgdihnjnllaaGreat.V
