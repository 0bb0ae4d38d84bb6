/- awake, walked. -/
import Derived.Test.YticbfjflhojolaaKit
namespace Go.Proofs.Yticbfjflhojolaa
open Go.RowKit
set_option linter.unusedVariables false

def l9 : List UInt8 := zeros.set 5 9
theorem l9_len : l9.length = 128 := by rw [l9, List.length_set, zeros_len]
def awS : DS := DS.restart ([((4 : Int), l9), (5, l9)].foldl (fun s w => s.put1 w.1.toNat w.2) { ([((3 : Int), l9)].foldl (fun s w => s.put1 w.1.toNat w.2) (newS 64)) with lasting := lay ([((3 : Int), l9)].foldl (fun s w => s.put1 w.1.toNat w.2) (newS 64)).lasting ([((3 : Int), l9)].foldl (fun s w => s.put1 w.1.toNat w.2) (newS 64)).since, since := [] }) [0, 1]
theorem aw3 : awS.now[3]? = some l9 := by kernel_rfl
theorem aw4 : awS.now[4]? = some zeros := by kernel_rfl
theorem aw5 : awS.now[5]? = some l9 := by kernel_rfl
theorem l9_5 : l9[5]? = some 9 := by kernel_rfl
theorem z_5 : zeros[5]? = some 0 := by kernel_rfl
set_option maxRecDepth 100000 in
set_option maxHeartbeats 4000000 in
theorem awake_any (w : World) : Calls Try.prog 11 #[] w fun e w' => e = .returned (.bool true) ∧ Below w.heap.size w w' := by
  go_enter Try.func11, Try.ntmps11
  go_wp2_with fail
  refine (new_any 64 _ (by omega) (by omega)).mono ?_
  rintro e w1 ⟨d, O, rfl, hdrv, hO, hb⟩
  have S1 : Hid (Sit w w1 d O 64 (newS 64)) := ⟨hdrv, hO, hb⟩
  obtain ⟨b, w2, hm, ho, hbe, hb2⟩ := make128 w1
  have S2 := Lib.hid (S1.out.below hb2)
  have O2 := Lib.hid ho
  have HNB : Hid (b ∉ O) := fun e => by have := S1.out.drv.lt b e; omega
  have HWB : Hid (w.heap.size ≤ b) := by show _ ≤ _; have := S1.out.bel.size; omega
  have hc5 := ho.cell (j := 5) (x := 0) (by rw [zeros, List.getElem?_replicate, if_pos (by omega)])
  have hf5 := ho.frozen 5
  clear hdrv hO hb ho hbe hb2 S1
  go_wp2_with fail
  have S3 : Hid (Sit w (w2.setCell ⟨b, 5, none⟩ (.int .u8 9)) d O 64 (newS 64)) := S2.out.set _ HNB.out HWB.out
  have O3 : Hid (Own (w2.setCell ⟨b, 5, none⟩ (.int .u8 9)) b l9) := O2.out.set 9 (by rw [zeros_len]; omega)
  clear hm S2 O2 hc5 hf5
  rw [show w2.heap.size = (w2.setCell ⟨b, 5, none⟩ (.int .u8 9)).heap.size by simp]
  generalize (w2.setCell ⟨b, 5, none⟩ (.int .u8 9)) = w3 at *
  refine (putS1 3 S3.out O3.out HNB.out l9_len (by simp [newS])).mono ?_
  rw [put_free rfl rfl (fit_one (by omega) (by omega) l9_len)]
  rintro e w4 ⟨rfl, O4, hs4, hc4, hn4⟩
  have S4 := Lib.hid hs4
  have OW4 := Lib.hid (O3.out.chg hc4 HNB.out)
  have HNB4 := Lib.hid (not_after hn4 HNB.out O3.out.lt)
  clear hs4 hc4 hn4 S3 O3 HNB
  go_wp2_with fail
  refine (flushS S4.out).mono ?_
  rw [flush_free rfl rfl]
  rintro e w5 ⟨rfl, O5, hs5, hc5, hn5⟩
  have S5 := Lib.hid hs5
  have OW5 := Lib.hid (OW4.out.chg hc5 HNB4.out)
  have HNB5 := Lib.hid (not_after hn5 HNB4.out OW4.out.lt)
  clear hs5 hc5 hn5 S4 OW4 HNB4
  go_wp2_with fail
  refine (putS2 4 5 S5.out OW5.out HNB5.out l9_len (by decide)).mono ?_
  rw [put_free rfl rfl (fit_two (by omega) (by omega) (by omega) (by omega) l9_len)]
  rintro e w6 ⟨rfl, O6, hs6, hc6, hn6⟩
  have S6 := Lib.hid hs6
  clear hs6 hc6 hn6 S5 OW5 HNB5 HWB
  go_wp2_with fail
  have hb7 := (Below.refl w6.heap.size w6).alloc (Nat.le_refl _) (.cells #[.int .i64 0, .int .i64 1] 3)
  refine (restartS (S6.out.below hb7) (ints_two w6 0 1) (fun q hq => ?_)).mono ?_
  · have hq' : q = w6.heap.size := hq
    subst hq'
    exact ⟨by simp, fun e => by have := S6.out.drv.lt _ e; omega⟩
  rintro e w7 ⟨rfl, O7, hs7, hc7, hn7⟩
  have S7 : Hid (Sit w w7 d O7 64 awS) := hs7
  clear hb7 hs7 hc7 hn7 S6
  go_wp2_with fail
  refine (getS 3 S7.out rfl aw3).mono ?_
  rintro e w8 ⟨bx, rfl, hs8, ho8, hn8, hz8, hb8⟩
  have S8 := Lib.hid hs8
  have X8 := Lib.hid ho8
  clear hs8 ho8 hn8 hz8 hb8 S7
  go_wp2_with fail
  refine (getS 4 S8.out rfl aw4).mono ?_
  rintro e w9 ⟨bY, rfl, hs9, ho9, hn9, hz9, hb9⟩
  have S9 := Lib.hid hs9
  have X9 := Lib.hid (X8.out.below hb9)
  have Y9 := Lib.hid ho9
  clear hs9 ho9 hn9 hz9 hb9 S8 X8
  go_wp2_with fail
  refine (getS 5 S9.out rfl aw5).mono ?_
  rintro e w10 ⟨bZ, rfl, hs10, ho10, hn10, hz10, hb10⟩
  have S10 := Lib.hid hs10
  have hx := (X9.out.below hb10).cell l9_5
  have hy := (Y9.out.below hb10).cell z_5
  have hz := ho10.cell l9_5
  have hx : w10.cell? ⟨bx, 5, none⟩ = some (.int .u8 9) := hx
  have hy : w10.cell? ⟨bY, 5, none⟩ = some (.int .u8 0) := hy
  have hz : w10.cell? ⟨bZ, 5, none⟩ = some (.int .u8 9) := hz
  clear hs10 ho10 hn10 hz10 hb10 S9 X9 Y9
  go_wp2_with fail
  refine (sectorsD S10.out.drv).mono ?_
  rintro e w11 ⟨rfl, rfl⟩
  go_wp2_with fail
  go_ret
  exact ⟨rfl, S10.out.bel⟩
end Go.Proofs.Yticbfjflhojolaa
