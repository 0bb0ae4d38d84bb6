/- DriveOwn, walked. -/
import Derived.Test.YticbfjflhojolaaAwake
namespace Go.Proofs.Yticbfjflhojolaa.driveOwn
open Go.RowKit
set_option linter.unusedVariables false

def la (a : UInt8) : List UInt8 := zeros.set 7 a
theorem la_len (a : UInt8) : (la a).length = 128 := by rw [la, List.length_set, zeros_len]
theorem la_7 (a : UInt8) : (la a)[7]? = some a := by rw [la, List.getElem?_set, if_pos rfl, if_pos (by rw [zeros_len]; omega)]
def st (m : Nat) (a : UInt8) : DS := [((m : Int), la a)].foldl (fun s w => s.put1 w.1.toNat w.2) (newS 64)
theorem st_now (m : Nat) (a : UInt8) (h : m < 64) : (st m a).now[m]? = some (la a) := by
  show ((List.replicate 64 zeros).set m (la a))[m]? = _
  rw [List.getElem?_set, if_pos rfl, if_pos (by rw [List.length_replicate]; exact h)]
theorem st_las (m : Nat) (a : UInt8) (h : m < 64) : (st m a).lasting[m]? = some zeros := by
  show (List.replicate 64 zeros)[m]? = _
  rw [List.getElem?_replicate, if_pos h]
set_option maxRecDepth 100000 in
set_option maxHeartbeats 4000000 in
theorem walk (W : World) (x a y : UInt8) :
    Calls Try.prog 7 #[.int .u8 (x.toNat : Int), .int .u8 (a.toNat : Int), .int .u8 (y.toNat : Int)] W fun e w' => e = .returned (.bool true) ∧ Below W.heap.size W w' := by
  have hx0 : (0 : Int) ≤ (x.toNat : Int) := Int.natCast_nonneg _
  have hx1 : (x.toNat : Int) ≤ 255 := by have := x.toNat_lt; omega
  go_enter Try.func7, Try.ntmps7
  go_wp2_with fail
  refine (new_any 64 _ (by omega) (by omega)).mono ?_
  rintro e w1 ⟨d, O, rfl, hdrv, hO, hb⟩
  have S1 : Hid (Sit W w1 d O 64 (newS 64)) := ⟨hdrv, hO, hb⟩
  clear hdrv hO hb
  obtain ⟨b, w2, hmk, ho, hbe, hb2⟩ := make128 w1
  have S2 := Lib.hid (S1.out.below hb2)
  have O2 := Lib.hid ho
  have HNB : Hid (b ∉ O) := fun e => by have := S1.out.drv.lt b e; omega
  have HWB : Hid (W.heap.size ≤ b) := by show _ ≤ _; have := S1.out.bel.size; omega
  have hc7 := ho.cell (j := 7) (x := 0) (by rw [zeros, List.getElem?_replicate, if_pos (by omega)])
  have hf7 := ho.frozen 7
  clear ho hbe hb2 S1
  go_wp2_with fail
  rw [show ((x.toNat : Int) % 64) = ((x.toNat % 64 : Nat) : Int) by omega]
  have hm64 : x.toNat % 64 < 64 := Nat.mod_lt _ (by omega)
  generalize x.toNat % 64 = m at *
  have S3 : Hid (Sit W (w2.setCell ⟨b, 7, none⟩ (.int .u8 (a.toNat : Int))) d O 64 (newS 64)) := S2.out.set _ HNB.out HWB.out
  have O3 : Hid (Own (w2.setCell ⟨b, 7, none⟩ (.int .u8 (a.toNat : Int))) b (la a)) := O2.out.set a (by rw [zeros_len]; omega)
  clear hmk S2 O2 hc7 hf7
  generalize (w2.setCell ⟨b, 7, none⟩ (.int .u8 (a.toNat : Int))) = w3 at *
  refine (awake_any _).mono ?_
  rintro e w4 ⟨rfl, hb4⟩
  have S4 := Lib.hid (S3.out.below hb4)
  have O4 := Lib.hid (O3.out.below hb4)
  clear hb4 S3 O3
  go_wp2_with fail
  refine (putS1 m S4.out O4.out HNB.out (la_len a) (by simp [newS])).mono ?_
  rw [put_free rfl rfl (fit_one (by omega) (by omega) (la_len a))]
  rintro e w5 ⟨rfl, O5, hs5, hc5, hn5⟩
  have S5 : Hid (Sit W w5 d O5 64 (st m a)) := hs5
  have OW5 := Lib.hid (O4.out.chg hc5 HNB.out)
  have HNB5 := Lib.hid (not_after hn5 HNB.out O4.out.lt)
  clear hs5 hc5 hn5 S4 O4 HNB
  have hc7 := OW5.out.cell (la_7 a)
  have hf7 := OW5.out.frozen 7
  have HSET : Hid (∀ u, Sit W (w5.setCell ⟨b, 7, none⟩ u) d O5 64 (st m a)) := fun u => S5.out.set u HNB5.out HWB.out
  clear S5 OW5 HNB5 HWB
  go_wp2_with fail
  clear hc7 hf7
  refine (getS m (HSET.out _) rfl (st_now m a hm64)).mono ?_
  rintro e w6 ⟨bc6, rfl, hs6, ho6, hn6, hz6, hb6⟩
  have hc7 := ho6.cell (la_7 a)
  have hf7 := ho6.frozen 7
  have HW6 : W.heap.size ≤ bc6 := by have := (HSET.out (.int .u8 0)).bel.size; simp at hz6 this; omega
  have HSET6 : Hid (∀ u, Sit W (w6.setCell ⟨bc6, 7, none⟩ u) d O5 64 (st m a)) := fun u => hs6.set u hn6 HW6
  clear hs6 ho6 hn6 hz6 hb6 HSET HW6
  go_wp2_with fail
  clear hc7 hf7
  refine (image_any (HSET6.out _).drv).mono ?_
  rintro e w7 ⟨bi, rfl, hz7, hrows, hb7⟩
  have S7 := Lib.hid ((HSET6.out _).below hb7)
  obtain ⟨C, hC, hCs, hrow⟩ := hrows
  obtain ⟨bj, g1, g2, g3, g4⟩ := hrow m zeros hm64 (st_las m a hm64)
  have hci : w7.cell? ⟨bi, m, none⟩ = some (.slice (some ⟨bj, 0, none⟩) 128 128) := by rw [cell_of hC]; exact g1
  have OJ : Own w7 bj zeros := ⟨67, g4⟩
  have hc7 := OJ.cell (j := 7) (x := 0) (by rw [zeros, List.getElem?_replicate, if_pos (by omega)])
  have hf7 := OJ.frozen 7
  have HNJ : bj ∉ O5 := fun e => by have := (HSET6.out (.int .u8 0)).drv.lt bj e; simp at g2 this; omega
  have HWJ : W.heap.size ≤ bj := by have := (HSET6.out (.int .u8 0)).bel.size; simp at g2 this; omega
  have HSET7 : Hid (∀ u, Sit W (w7.setCell ⟨bj, 7, none⟩ u) d O5 64 (st m a)) := fun u => S7.out.set u HNJ HWJ
  clear hz7 hb7 hC hCs hrow g1 g2 g3 g4 OJ HNJ HWJ S7 HSET6
  go_wp2_with fail
  clear hc7 hf7 hci
  refine (getS m (HSET7.out _) rfl (st_now m a hm64)).mono ?_
  rintro e w8 ⟨bz, rfl, hs8, ho8, hn8, hz8, hb8⟩
  have hc7 := ho8.cell (la_7 a)
  have S8 := Lib.hid hs8
  clear hs8 ho8 hn8 hz8 hb8 HSET7
  go_wp2_with fail
  go_ret
  exact ⟨rfl, S8.out.bel⟩
end Go.Proofs.Yticbfjflhojolaa.driveOwn
