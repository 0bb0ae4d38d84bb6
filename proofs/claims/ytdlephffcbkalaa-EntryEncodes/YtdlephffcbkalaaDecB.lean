/- Decode of 32 bytes, walked. -/
import Derived.Test.YtdlephffcbkalaaDec
import Derived.Deep.RegionHeld3
namespace Go.Proofs.Ytdlephffcbkalaa
open Go.RowKit
set_option linter.unusedVariables false

set_option maxRecDepth 20000 in
set_option maxHeartbeats 2000000 in
theorem dec_fit {w : World} {B c : Nat} {A : Option Addr} {b : List UInt8} (h : Bts w B A 32 c b) (hB : B ≤ w.heap.size) (hf : fits b = true) : Calls Try.prog 12 #[.slice A 32 c] w (DecP w (dec b)) := by
  obtain ⟨o, ho⟩ : ∃ o, dec b = o := ⟨_, rfl⟩
  rw [ho]
  have HO := Lib.hid ho
  clear ho
  have HF := Lib.hid hf
  have HL := Lib.hid h.len
  have hlim := h.lim
  have hcap := h.cap
  unfold maxLen at hlim
  obtain ⟨bb, off, rfl, hbb, hcell⟩ := h.at_ (by omega)
  have HC := Lib.hid hcell
  have H := Lib.hid h
  have hk24 : (b[0]?.getD 0).toNat ≤ 24 := by
    simp only [fits, Bool.and_eq_true, decide_eq_true_eq] at hf
    exact hf.2
  clear hcell h hf
  obtain ⟨nm, hnm⟩ : ∃ nm, (b.drop 1).take (b[0]?.getD 0).toNat = nm := ⟨_, rfl⟩
  have HNM := Lib.hid hnm
  obtain ⟨b25, h25⟩ : ∃ x, b[25]?.getD 0 = x := ⟨_, rfl⟩
  obtain ⟨b26, h26⟩ : ∃ x, b[26]?.getD 0 = x := ⟨_, rfl⟩
  have HCA : Hid (cand b = (nm, ((b25.toNat + 256 * b26.toNat : Nat) : Int))) := by show _ = _; unfold cand; rw [hnm, h25, h26]
  have hc0 := HC.out 0 (by omega)
  have hc25 := HC.out 25 (by omega)
  have hc26 := HC.out 26 (by omega)
  rw [h25] at hc25
  rw [h26] at hc26
  rw [Nat.add_zero] at hc0
  have HSUB := Lib.hid (H.out.sub (s := 1) (m := (b[0]?.getD 0).toNat) (by omega))
  rw [hnm] at HSUB
  clear h25 h26 hnm
  obtain ⟨k, hk⟩ : ∃ k, (b[0]?.getD 0).toNat = k := ⟨_, rfl⟩
  rw [hk] at hc0 hk24 HSUB
  clear hk
  go_enter Try.func12, Try.ntmps12
  obtain ⟨a0, ab, az⟩ := box1 w (Obj.cells zr 23)
  have W0 : (w.alloc (Obj.cells zr 23)).cell? ⟨bb, off, none⟩ = some (.int .u8 k) := (ab.cell (p := ⟨bb, off, none⟩) (by show bb < _; omega)).trans hc0
  have W25 : (w.alloc (Obj.cells zr 23)).cell? ⟨bb, off + 25, none⟩ = some (.int .u8 (b25.toNat : Int)) := (ab.cell (p := ⟨bb, off + 25, none⟩) (by show bb < _; omega)).trans hc25
  have W26 : (w.alloc (Obj.cells zr 23)).cell? ⟨bb, off + 26, none⟩ = some (.int .u8 (b26.toNat : Int)) := (ab.cell (p := ⟨bb, off + 26, none⟩) (by show bb < _; omega)).trans hc26
  have hk24' : ¬ (24 : Int) < (k : Int) := by omega
  have HW : Hid (Bts (w.alloc (Obj.cells zr 23)) (w.alloc (Obj.cells zr 23)).heap.size (some ⟨bb, off, none⟩) 32 c b) := (H.out.below (ab.mono hB)).more (by rw [az]; omega)
  have HWS : Hid (Bts (w.alloc (Obj.cells zr 23)) (w.alloc (Obj.cells zr 23)).heap.size (some ⟨bb, off + 1, none⟩) k (c - 1) nm) := (HSUB.out.below (ab.mono hB)).more (by rw [az]; omega)
  go_upto_region 3 with fail
  have A0 := Lib.hid a0
  have AB := Lib.hid ab
  have hz : w.heap.size < (w.alloc (Obj.cells zr 23)).heap.size := by rw [az]; omega
  clear a0 ab az hc0 hc25 hc26 HSUB H HC
  generalize w.alloc (Obj.cells zr 23) = W at *
  have w1 : IntKind.i64.wrap (1 + (k : Int)) = 1 + (k : Int) := by rw [IntKind.wrap_i64]; omega
  have w2 : (1 + (k : Int)) ≤ (c : Int) := by omega
  have w3 : (1 : Int) ≤ 1 + (k : Int) := by omega
  have w4 : (1 + (k : Int)).toNat - 1 = k := by omega
  have w5 : (0 : Int) ≤ 1 + (k : Int) := by omega
  have cv : ∀ V, Below W.heap.size W V → (convert 24 9 (.slice (some ⟨bb, off + 1, none⟩) k (c - 1))).run Try.prog V = .ok (.string (bs nm)) V := fun V hV => fstr HWS.out V hV
  have cv1 := cv W.drew ((Below.refl _ _).drew)
  have cv2 := cv (W.alloc (.cells zr 23)).drew ((box_below W _).drew)
  have hbW : bb < W.heap.size := by omega
  have V0 : (W.alloc (Obj.cells zr 23)).cell? ⟨bb, off, none⟩ = some (.int .u8 k) := ((box_below W _).cell (p := ⟨bb, off, none⟩) hbW).trans W0
  have V25 : (W.alloc (Obj.cells zr 23)).cell? ⟨bb, off + 25, none⟩ = some (.int .u8 (b25.toNat : Int)) := ((box_below W _).cell (p := ⟨bb, off + 25, none⟩) hbW).trans W25
  have V26 : (W.alloc (Obj.cells zr 23)).cell? ⟨bb, off + 26, none⟩ = some (.int .u8 (b26.toNat : Int)) := ((box_below W _).cell (p := ⟨bb, off + 26, none⟩) hbW).trans W26
  have w6 : IntKind.i64.wrap (k : Int) = (k : Int) := by rw [IntKind.wrap_i64]; omega
  have w7 : IntKind.i64.wrap (b25.toNat : Int) = (b25.toNat : Int) := by have := b25.toNat_lt; rw [IntKind.wrap_i64]; omega
  have w8 : IntKind.i64.wrap (b26.toNat : Int) = (b26.toNat : Int) := by have := b26.toNat_lt; rw [IntKind.wrap_i64]; omega
  have w9 : IntKind.i64.wrap ((b26.toNat : Int) * 256) = (b26.toNat : Int) * 256 := by have := b26.toNat_lt; rw [IntKind.wrap_i64]; omega
  have w10 := or_low b25 b26
  have w11 : ¬ c = 1 := by omega
  go_region
  all_goals
    have HE : ∀ V, Hid (Calls Try.prog 8 #[.agg #[.string (bs nm), .int .i64 ((b25.toNat : Int) + 256 * (b26.toNat : Int))]] V (EncP V (enc (cand b)))) := fun V => by
      have h1 := HCA.out
      rw [show ((b25.toNat + 256 * b26.toNat : Nat) : Int) = (b25.toNat : Int) + 256 * (b26.toNat : Int) by omega] at h1
      show Calls _ _ _ _ _
      rw [h1]
      exact enc_any nm _ V
    have HCB : Hid (cand b = (nm, (b25.toNat : Int) + 256 * (b26.toNat : Int))) := by show _ = _; rw [HCA.out]; congr 1
    clear w1 w2 w3 w4 w5 w6 w7 w8 w9 w10 w11 cv cv1 cv2 V0 V25 V26 W0 W25 W26 HCA HWS
    generalize (b25.toNat : Int) + 256 * (b26.toNat : Int) = x at *
    obtain ⟨v1, v2, v3⟩ := box1 W (Obj.cells #[.string (bs nm), .int .i64 x] 23)
    have hv : Below W.heap.size W (W.alloc (Obj.cells #[.string (bs nm), .int .i64 x] 23)).drew := v2.drew
    have X0 : Hid ((W.alloc (Obj.cells #[.string (bs nm), .int .i64 x] 23)).drew.heap[w.heap.size]? = some (.cells zr 23 (0, 0))) := (hv.block _ hz).trans A0.out
    have X1 : Hid ((W.alloc (Obj.cells #[.string (bs nm), .int .i64 x] 23)).drew.heap[W.heap.size]? = some (.cells #[.string (bs nm), .int .i64 x] 23 (0, 0))) := v1
    have XB : Hid (Below w.heap.size w (W.alloc (Obj.cells #[.string (bs nm), .int .i64 x] 23)).drew) := AB.out.trans (hv.mono AB.out.size)
    have XW : Hid (Bts (W.alloc (Obj.cells #[.string (bs nm), .int .i64 x] 23)).drew W.heap.size (some ⟨bb, off, none⟩) 32 c b) := HW.out.below hv
    have XZ : Hid (W.heap.size < (W.alloc (Obj.cells #[.string (bs nm), .int .i64 x] 23)).drew.heap.size) := by show W.heap.size < (W.alloc _).heap.size; rw [v3]; omega
    clear v1 v2 v3 hv HW A0 AB
    go_upto_region 4 with fail
    generalize (W.alloc (Obj.cells #[.string (bs nm), .int .i64 x] 23)).drew = V at *
    have hzz : w.heap.size < V.heap.size := by have := XZ.out; omega
    go_wp2_with (first | (refine wpList_load_row rfl 23 _ rfl W.heap.size rfl _ _ _ X1.out _ Try.underlying23 rfl s23 ?_) | fail)
    refine (HE V).out.mono ?_
    obtain ⟨q, hq⟩ : ∃ q, enc (cand b) = q := ⟨_, rfl⟩
    rw [hq]
    have HQ := Lib.hid hq
    clear hq HE
    cases q with
    | none =>
      rintro e w2 ⟨rfl, hb2⟩
      obtain rfl : o = none := by rw [← HO.out]; unfold dec; rw [if_pos HF.out, HQ.out, if_neg (by simp)]
      have Y0 : Hid (w2.heap[w.heap.size]? = some (.cells zr 23 (0, 0))) := (hb2.block _ hzz).trans X0.out
      have YB := Lib.hid (XB.out.trans (hb2.mono XB.out.size))
      clear hb2 X0 X1 XB XW XZ
      go_wp2_with (first | (refine wpList_store_row rfl 23 _ _ rfl w.heap.size zr zr 23 rfl rfl Y0.out s23 rfl zr_one ?_) | fail)
      refine bodyPost_ret (ret_row2 rfl rfl (setRow_in _ _ zr zr _ Y0.out) Try.underlying23 rfl s23) rfl ?_
      exact ⟨rfl, below_row YB.out (Nat.le_refl _) _⟩
    | some y =>
      rintro e w2 ⟨g, rfl, hby, hgy, hb2⟩
      have Y0 : Hid (w2.heap[w.heap.size]? = some (.cells zr 23 (0, 0))) := (hb2.block _ hzz).trans X0.out
      have Y1 : Hid (w2.heap[W.heap.size]? = some (.cells #[.string (bs nm), .int .i64 x] 23 (0, 0))) := (hb2.block _ XZ.out).trans X1.out
      have YB := Lib.hid (XB.out.trans (hb2.mono XB.out.size))
      have YW := Lib.hid (XW.out.below (hb2.mono (Nat.le_of_lt XZ.out)))
      have YY := Lib.hid hby
      clear hb2 X0 X1 XB XW XZ hby hgy
      go_wp2_with fail
      refine (equal_any YY.out YW.out).mono ?_
      rintro e w3 ⟨rfl, rfl⟩
      by_cases hy : y = b
      · subst hy
        obtain rfl : o = some (nm, x) := by rw [← HO.out]; unfold dec; rw [if_pos HF.out, HQ.out, if_pos rfl, HCB.out]
        rw [decide_eq_true (rfl : y = y)]
        go_wp2_with (first | (refine wpList_load_row rfl 23 _ rfl W.heap.size rfl _ _ _ Y1.out _ Try.underlying23 rfl s23 ?_) | (refine wpList_store_row rfl 23 _ _ rfl w.heap.size zr #[.string (bs nm), .int .i64 x] 23 rfl rfl Y0.out s23 rfl (all_oneCell_toArray (rc_one (nm, x))) ?_) | fail)
        refine bodyPost_ret (ret_row2 rfl rfl (setRow_in _ _ zr #[.string (bs nm), .int .i64 x] _ Y0.out) Try.underlying23 rfl s23) rfl ?_
        exact ⟨rfl, below_row YB.out (Nat.le_refl _) _⟩
      · obtain rfl : o = none := by rw [← HO.out]; unfold dec; rw [if_pos HF.out, HQ.out, if_neg (by simpa using hy)]
        rw [decide_eq_false hy]
        clear hy
        go_wp2_with (first | (refine wpList_store_row rfl 23 _ _ rfl w.heap.size zr zr 23 rfl rfl Y0.out s23 rfl zr_one ?_) | fail)
        refine bodyPost_ret (ret_row2 rfl rfl (setRow_in _ _ zr zr _ Y0.out) Try.underlying23 rfl s23) rfl ?_
        exact ⟨rfl, below_row YB.out (Nat.le_refl _) _⟩
theorem dec_any {w : World} {B n c : Nat} {A : Option Addr} {b : List UInt8} (h : Bts w B A n c b) (hB : B ≤ w.heap.size) : Calls Try.prog 12 #[.slice A n c] w (DecP w (dec b)) := by
  cases hf : fits b with
  | false =>
    have : dec b = none := by unfold dec; rw [if_neg (by rw [hf]; decide)]
    rw [this]
    exact dec_unfit h hB hf
  | true =>
    obtain rfl : n = 32 := by
      simp only [fits, Bool.and_eq_true, decide_eq_true_eq] at hf
      rw [← h.len, hf.1]
    exact dec_fit h hB hf
end Go.Proofs.Ytdlephffcbkalaa
