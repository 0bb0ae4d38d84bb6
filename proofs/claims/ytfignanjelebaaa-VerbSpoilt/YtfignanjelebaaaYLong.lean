/- package verb: Long: what is read of bytes, if they are such. -/
import Derived.Test.YtfignanjelebaaaYRead
namespace Go.Proofs.Ytfignanjelebaaa
open Go.RowKit
set_option linter.unusedVariables false
theorem len7i {xs : List Int} (h : xs.length = 7) : ∃ a b c d e f g, xs = [a, b, c, d, e, f, g] := by
  match xs, h with
  | [a, b, c, d, e, f, g], _ => exact ⟨a, b, c, d, e, f, g, rfl⟩
/-- What is told of a change, read. -/
def Rp.ofs (xs : List Int) : Rp := ⟨0, 0, 0, xs[0]?.getD 0, xs[1]?.getD 0, xs[2]?.getD 0, xs[3]?.getD 0, xs[4]?.getD 0, xs[5]?.getD 0, xs[6]?.getD 0, [], []⟩
theorem Rp.ofs_back {l : List UInt8} (h : (rns 7 (l, false)).2 = ([], false)) : l = (Rp.ofs (rns 7 (l, false)).1).short := by
  obtain ⟨a, b, c⟩ := rns_back (k := 7) (s := (l, false)) (by rw [h])
  rw [h, List.append_nil] at a
  have a : l = nums (rns 7 (l, false)).1 := a
  obtain ⟨x0, x1, x2, x3, x4, x5, x6, e⟩ := len7i b
  rw [e] at a ⊢
  exact a
theorem Rp.ofs_write {r : Rp} (h : r.Good) : Rp.ofs (rns 7 (r.short, false)).1 = r.of_short ∧ (rns 7 (r.short, false)).2 = ([], false) := by
  have e := rns_write (r.e :: r.st) [] false fun n hn => h.nums n (short_in hn)
  rw [List.append_nil] at e
  have e : rns 7 (r.short, false) = (r.e :: r.st, [], false) := e
  rw [e]
  exact ⟨rfl, rfl⟩
theorem Rp.of_short_good {r : Rp} (h : r.Good) : r.of_short.Good := by
  obtain ⟨⟨h0, h1, h2, h3, h4, h5, h6⟩, hf, hs⟩ := h
  refine ⟨⟨h0, h1, ?_, ?_, ?_, ?_, ?_⟩, fun s hs => ?_, hs⟩
  · show ([] : List UInt8).length ≤ 256; decide
  · show ([] : List (List UInt8)).length ≤ 512; decide
  · show num 0; decide
  · show num 0; decide
  · show num 0; decide
  · have hs : s ∈ ([] : List (List UInt8)) := hs
    cases hs
/-- Numbers laid into cells. -/
def fillI : List Value → List Nat → List Int → List Value
  | C, o :: os, x :: xs => fillI (C.set o (iv x)) os xs
  | C, _, _ => C
def fillS : List Value → List Nat → List (List UInt8) → List Value
  | C, o :: os, x :: xs => fillS (C.set o (.string ⟨x.toArray⟩)) os xs
  | C, _, _ => C
theorem rdF_I (os : List Nat) (C : List Value) (s : Rest) : rdF rdI os (C, s) = (fillI C os (rns os.length s).1, (rns os.length s).2) := by
  induction os generalizing C s with
  | nil => rfl
  | cons o os ih =>
    have e : rdF rdI (o :: os) (C, s) = rdF rdI os (C.set o (iv (rn s).1), (rn s).2) := rfl
    rw [e, ih]
    rfl
theorem rdF_S (os : List Nat) (C : List Value) (s : Rest) : rdF rdS os (C, s) = (fillS C os (rts os.length s).1, (rts os.length s).2) := by
  induction os generalizing C s with
  | nil => rfl
  | cons o os ih =>
    have e : rdF rdS (o :: os) (C, s) = rdF rdS os (C.set o (.string ⟨(rt s).1.toArray⟩), (rt s).2) := rfl
    rw [e, ih]
    rfl
theorem rns_len (k : Nat) (s : Rest) : (rns k s).1.length = k := by
  induction k generalizing s with
  | zero => rfl
  | succ k ih => simp only [rns, List.length_cons, ih]
theorem rts_len (k : Nat) (s : Rest) : (rts k s).1.length = k := by
  induction k generalizing s with
  | zero => rfl
  | succ k ih => simp only [rts, List.length_cons, ih]
theorem rdF_s (l : List UInt8) : rdF rdI sOs (rc zeroR none 0 0 none 0 0, (l, false)) = (rc (Rp.ofs (rns 7 (l, false)).1) none 0 0 none 0 0, (rns 7 (l, false)).2) := by
  rw [rdF_I]
  show (fillI _ sOs (rns 7 (l, false)).1, (rns 7 (l, false)).2) = _
  obtain ⟨x0, x1, x2, x3, x4, x5, x6, e⟩ := len7i (rns_len 7 (l, false))
  rw [e]
  rfl
theorem long_read (l : List UInt8) : ∃ (r : Rp) (s : Rest), rdF rdI sOs (rc zeroR none 0 0 none 0 0, (l, false)) = (rc r none 0 0 none 0 0, s) ∧ (r.of_short = r ∧ r.d = [] ∧ r.ns = []) ∧ (s = ([], false) → l = r.short) ∧ ∀ r' : Rp, r'.Good → l = r'.short → r = r'.of_short ∧ s = ([], false) := by
  refine ⟨Rp.ofs (rns 7 (l, false)).1, (rns 7 (l, false)).2, rdF_s l, ?_, Rp.ofs_back, fun r' hr e => ?_⟩
  · generalize (rns 7 (l, false)).1 = xs
    exact ⟨rfl, rfl, rfl⟩
  · rw [e]
    exact Rp.ofs_write hr
def zr : Obj := Obj.cells #[.int .i64 0, .int .i64 0, .int .i64 0, .int .i64 0, .int .i64 0, .int .i64 0, .int .i64 0, .int .i64 0, .int .i64 0, .int .i64 0, .slice none 0 0, .slice none 0 0] 44
set_option maxRecDepth 100000 in
set_option maxHeartbeats 4000000 in
theorem long_any (A : Option Addr) (n c B : Nat) (l : List UInt8) (w : World) (h : Bts w B A n c l) (hB : B ≤ w.heap.size) : Calls Try.prog 28 #[.slice A n c] w (LngP w l) := by
  obtain ⟨r, s, hst, h1, h2, h3⟩ := long_read l
  have HST := Lib.hid hst
  have HS0 := Lib.hid h1
  have HE := Lib.hid h2
  have HW := Lib.hid h3
  clear hst h1 h2 h3
  obtain ⟨a0, ab, az⟩ := box1 w zr
  have A0 : Hid (_ = some (Obj.cells (rc zeroR none 0 0 none 0 0).toArray 44 (0, 0))) := a0
  have AB := Lib.hid ab
  have H := Lib.hid ((h.more hB).below ab)
  have hs0 : w.heap.size < (w.alloc zr).heap.size := by omega
  clear a0 ab az h
  unfold zr at A0 AB H hs0
  go_enter Try.func28, Try.ntmps28
  go_wp2_with fail
  generalize w.alloc (Obj.cells #[.int .i64 0, .int .i64 0, .int .i64 0, .int .i64 0, .int .i64 0, .int .i64 0, .int .i64 0, .int .i64 0, .int .i64 0, .int .i64 0, .slice none 0 0, .slice none 0 0] 44) = W at *
  refine (read_any A n c _ l W H.out (Nat.le_of_lt hs0)).mono ?_
  rintro e w1 ⟨rfl, hf, hb⟩
  have HF := Lib.hid hf
  have HB := Lib.hid (AB.out.trans (hb.mono AB.out.size))
  have A1 := Lib.hid ((hb.block w.heap.size hs0).trans A0.out)
  have hf1 := hf.lt
  clear hf hb A0 AB H
  obtain ⟨b0, bb, bz⟩ := box1 w1 zr
  have G2 : Hid (_ = some (Obj.cells (rc zeroR none 0 0 none 0 0).toArray 44 (0, 0))) := b0
  have A2 := Lib.hid ((bb.block w.heap.size (lt_of_heap A1.out)).trans A1.out)
  have F2 := Lib.hid (HF.out.below bb)
  have HB2 := Lib.hid (HB.out.trans (bb.mono HB.out.size))
  clear b0 bb bz A1 HF HB
  unfold zr at G2 A2 F2 HB2
  go_wp2_with fail
  generalize w1.alloc (Obj.cells #[.int .i64 0, .int .i64 0, .int .i64 0, .int .i64 0, .int .i64 0, .int .i64 0, .int .i64 0, .int .i64 0, .int .i64 0, .int .i64 0, .slice none 0 0, .slice none 0 0] 44) = w2 at *
  refine (ofChange_any w1.heap.size w2).mono ?_
  rintro e w3 ⟨A3, n3, c3, rfl, hp, hpf, hb⟩
  have HP := Lib.hid hp
  have HPF : Hid (∀ f', A3 = some ⟨f', 0, none⟩ → f' ≠ w1.heap.size ∧ f' ≠ W.heap.size) := fun f' e => by
    have h1 := (hpf f' e).1
    have h2 := lt_of_heap G2.out
    have h3 := F2.out.lt
    omega
  have G3 := Lib.hid ((hb.block w1.heap.size (lt_of_heap G2.out)).trans G2.out)
  have A3' := Lib.hid ((hb.block w.heap.size (lt_of_heap A2.out)).trans A2.out)
  have F3 := Lib.hid (F2.out.below hb)
  have HB3 := Lib.hid (HB2.out.trans (hb.mono HB2.out.size))
  have hn3 : n3 ≤ 9 := by rw [← hp.len]; simp [sOs]
  clear hp hpf hb G2 A2 F2 HB2
  go_wp2_with fail
  have hget := getI_any sOs A3 n3 c3 w1.heap.size W.heap.size 44 (rc zeroR none 0 0 none 0 0) (l, false) w3 (by omega) HP.out HPF.out G3.out (by decide) F3.out hf1
  rw [HST.out] at hget
  clear HST
  refine hget.mono ?_
  clear hget
  rintro e w4 ⟨rfl, hg, hf, hbt⟩
  have G4 := Lib.hid hg
  have F4 := Lib.hid hf
  have A4 := Lib.hid ((hbt.block w.heap.size (lt_of_heap A3'.out) (by omega) (by omega)).trans A3'.out)
  have HB4 := Lib.hid (HB3.out.trans (hbt.below (by omega) (by omega) HB3.out.size))
  clear hg hf hbt HP HPF G3 A3' F3 HB3
  have hez := end_zero (s := s)
  obtain ⟨x, hx⟩ : ∃ x, endOf s.1 s.2 = x := ⟨_, rfl⟩
  rw [hx] at hez
  have HX := Lib.hid hx
  clear hx
  by_cases h0 : x = 0
  case neg =>
    have HN : Hid (∀ r : Rp, r.Good → l ≠ r.short) := fun r hr e => h0 (hez.2 (HW.out r hr e).2)
    clear hez
    go_wp2_with fail
    refine (fend_any W.heap.size _ _ w4 F4.out).mono ?_
    rintro e w5 ⟨rfl, rfl⟩
    rw [HX.out]
    go_wp2_with (first | (refine wpList_store_row rfl 44 _ _ rfl w.heap.size (rc zeroR none 0 0 none 0 0).toArray (rc zeroR none 0 0 none 0 0).toArray _ rfl rfl A4.out s44 rfl (all_oneCell_toArray (rc_one zeroR _ _ _ _ _ _)) ?_) | fail)
    refine bodyPost_ret (ret_row2 rfl rfl (setRow_in _ _ _ (rc zeroR none 0 0 none 0 0).toArray _ A4.out) Try.underlying44 rfl s44) rfl ?_
    exact ⟨below_setRow HB4.out (Nat.le_refl _) _, .inr ⟨HN.out, rfl⟩⟩
  subst h0
  have HL := Lib.hid (HE.out (hez.1 rfl))
  clear hez HE
  go_wp2_with fail
  refine (fend_any W.heap.size _ _ w4 F4.out).mono ?_
  rintro e w5 ⟨rfl, rfl⟩
  rw [HX.out]
  go_wp2_with (first | (refine wpList_load_row rfl 44 _ rfl w1.heap.size rfl _ _ _ G4.out _ Try.underlying44 rfl s44 ?_) | fail)
  refine (goodR_any r none none 0 0 0 0 0 w4 (by rw [HS0.out.2.1]; rfl) (by rw [HS0.out.2.2]; exact Strs.nil_ _ _) (Nat.zero_le _)).mono ?_
  rintro e w5 ⟨rfl, hb⟩
  have G5 := Lib.hid ((hb.block w1.heap.size (lt_of_heap G4.out)).trans G4.out)
  have A5 := Lib.hid ((hb.block w.heap.size (lt_of_heap A4.out)).trans A4.out)
  have HB5 := Lib.hid (HB4.out.trans (hb.mono HB4.out.size))
  clear hb G4 A4 F4 HB4 HX
  by_cases hg : r.Good
  case neg =>
    have HN : Hid (∀ r' : Rp, r'.Good → l ≠ r'.short) := fun r' hr e => hg (by rw [(HW.out r' hr e).1]; exact Rp.of_short_good hr)
    rw [decide_eq_false hg]
    clear hg HW HL
    go_wp2_with (first | (refine wpList_store_row rfl 44 _ _ rfl w.heap.size (rc zeroR none 0 0 none 0 0).toArray (rc zeroR none 0 0 none 0 0).toArray _ rfl rfl A5.out s44 rfl (all_oneCell_toArray (rc_one zeroR _ _ _ _ _ _)) ?_) | fail)
    refine bodyPost_ret (ret_row2 rfl rfl (setRow_in _ _ _ _ _ A5.out) Try.underlying44 rfl s44) rfl ?_
    exact ⟨below_setRow HB5.out (Nat.le_refl _) _, .inr ⟨HN.out, rfl⟩⟩
  have HG := Lib.hid hg
  rw [decide_eq_true hg]
  clear hg HW
  go_wp2_with (first | (refine wpList_store_row rfl 44 _ _ rfl w.heap.size (rc zeroR none 0 0 none 0 0).toArray (rc r none 0 0 none 0 0).toArray _ rfl rfl A5.out s44 rfl (all_oneCell_toArray (rc_one r _ _ _ _ _ _)) ?_) | (refine wpList_load_row rfl 44 _ rfl w1.heap.size rfl _ _ _ G5.out _ Try.underlying44 rfl s44 ?_) | fail)
  refine bodyPost_ret (ret_row2 rfl rfl (setRow_in _ _ _ _ _ A5.out) Try.underlying44 rfl s44) rfl ?_
  exact ⟨below_setRow HB5.out (Nat.le_refl _) _, .inl ⟨r, HG.out, HS0.out.1, HL.out, none, 0, 0, none, 0, 0, by rw [HS0.out.2.1]; exact Bts.nil_ _ _, by rw [HS0.out.2.2]; exact Strs.nil_ _ _, rfl⟩⟩
end Go.Proofs.Ytfignanjelebaaa
