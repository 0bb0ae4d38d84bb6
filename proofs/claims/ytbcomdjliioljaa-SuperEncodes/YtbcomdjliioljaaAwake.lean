/- copyholdlaw07.awake, walked. -/
import Derived.Test.YtbcomdjliioljaaRefE
namespace Go.Proofs.Ytbcomdjliioljaa
open Go.RowKit
set_option linter.unusedVariables false

/-- What was encoded is decoded. -/
theorem decode_sec {w : World} {B n cap a b c : Nat} {A : Option Addr} (h : F.Bts w B A n cap (sec a b c)) (hB : B ≤ w.heap.size) (hok : ok a b c = true) : Calls Try.prog 10 #[.slice A n cap] w (Said w a b c) := by
  obtain ⟨_, _, _, _, _, _⟩ := ok_iff.1 hok
  have hd := decode_any (r := true) h hB ⟨fun _ => isSec_sec hok, fun _ => rfl⟩
  have e0 := num_sec0 a b c (by omega)
  have e1 := num_sec1 a b c (by omega)
  have e2 := num_sec2 a b c (by omega)
  unfold DecP at hd
  rw [e0, e1, e2] at hd
  exact hd
theorem enc64 (w : World) : Calls Try.prog 6 #[.agg #[.int .i64 64, .int .i64 2, .int .i64 0]] w (F.Gives2 w (sec 64 2 0)) := encode_yes 64 2 0 w (by decide)
theorem dec64 {w : World} {B n cap : Nat} {A : Option Addr} (h : F.Bts w B A n cap (sec 64 2 0)) (hB : B ≤ w.heap.size) : Calls Try.prog 10 #[.slice A n cap] w fun e w' => e = .returned (.tuple #[.agg #[.int .i64 64, .int .i64 2, .int .i64 0], .int .i64 0]) ∧ Below w.heap.size w w' := decode_sec h hB (by decide)
theorem sound64 (w : World) : Calls Try.prog 8 #[.agg #[.int .i64 64, .int .i64 2, .int .i64 0]] w fun e w' => e = .returned (.bool true) ∧ Below w.heap.size w w' := by
  have := sound_any 64 2 0 w
  have e : ok 64 2 0 = true := by decide
  rwa [e] at this
theorem take4_sec (a b c : Nat) : (sec a b c).take 4 = [67, 79, 80, 89] := by
  have e : sec a b c = part a b c 0 ++ (F.lit 4 a ++ (F.lit 4 b ++ (F.lit 4 c ++ (List.replicate 108 0 ++ F.lit 4 (F.crc (pre a b c)))))) := by simp [sec, pre, part]
  rw [e]
  exact List.take_left' (part_len _ _ _ 0 (by omega))
set_option maxRecDepth 20000 in
set_option maxHeartbeats 1000000 in
theorem awake_any (w : World) : Calls Try.prog 11 #[] w fun e w' => e = .returned (.bool true) ∧ Below w.heap.size w w' := by
  go_enter Try.func11, Try.ntmps11
  go_wp2_with fail
  refine (enc64 w).mono ?_
  rintro e w1 ⟨v, rfl, hm⟩
  obtain ⟨A, n, c, rfl, hb⟩ := hm.holds
  have hn : n = 128 := by rw [← hb.len, sec_len]
  subst hn
  obtain ⟨bb, off, rfl, hbb, _⟩ := hb.at_ (by omega)
  have hcap := hb.cap
  have hlim := hb.lim
  unfold maxLen at hlim
  have H := Lib.hid hb
  have HM := Lib.hid hm.bel
  clear hb hm
  go_wp2_with fail
  refine (dec64 H.out (Nat.le_refl _)).mono ?_
  rintro e w2 ⟨rfl, hb2⟩
  have HB2 := Lib.hid (HM.out.trans (hb2.mono HM.out.size))
  have hcv : ∀ o, (convert 24 9 (.slice (some ⟨bb, off, none⟩) 4 c)).run Try.prog (w2.alloc o) = .ok (.string { data := #[67, 79, 80, 89] }) (w2.alloc o) := fun o => by
    have h4 := H.out.head (s := 4) (by omega)
    rw [take4_sec] at h4
    exact h4.str _ fun p hp => ((hb2.trans ((box_below w2 o).mono hb2.size)).cell hp)
  clear hb2
  go_wp2_with fail
  refine (sound64 _).mono ?_
  rintro e w3 ⟨rfl, hb3⟩
  have HB3 : Hid (Below w.heap.size w w3) := (HB2.out.alloc HB2.out.size _).trans (hb3.mono (by simp; have := HB2.out.size; omega))
  clear hb3
  go_wp2_with fail
  go_ret
  exact ⟨rfl, HB3.out⟩
end Go.Proofs.Ytbcomdjliioljaa
