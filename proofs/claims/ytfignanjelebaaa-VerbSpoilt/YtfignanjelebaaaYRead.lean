/- package verb: Called, Long: what is read of bytes, if it is a frame of such. -/
import Derived.Test.YtfignanjelebaaaYOpen
namespace Go.Proofs.Ytfignanjelebaaa
open Go.RowKit
set_option linter.unusedVariables false
theorem end_zero {s : Rest} : endOf s.1 s.2 = 0 ↔ s = ([], false) := by
  obtain ⟨l, sh⟩ := s
  unfold endOf
  cases sh
  · by_cases h : 0 < l.length
    · have hl : l ≠ [] := List.ne_nil_of_length_pos h
      simp [h, hl]
    · obtain rfl : l = [] := List.length_eq_zero_iff.1 (by omega)
      simp
  · simp
theorem len3i {xs : List Int} (h : xs.length = 3) : ∃ a b c, xs = [a, b, c] := by
  match xs, h with
  | [a, b, c], _ => exact ⟨a, b, c, rfl⟩
/-- A recall, read. -/
def Rc.of (l : List UInt8) : Rc := ⟨((rns 3 (l, false)).1)[0]?.getD 0, ((rns 3 (l, false)).1)[1]?.getD 0, ((rns 3 (l, false)).1)[2]?.getD 0⟩
theorem Rc.of_back {l : List UInt8} (h : (rns 3 (l, false)).2 = ([], false)) : l = nums (Rc.of l).xs := by
  obtain ⟨a, b, c⟩ := rns_back (k := 3) (s := (l, false)) (by rw [h])
  rw [h, List.append_nil] at a
  have a : l = nums (rns 3 (l, false)).1 := a
  unfold Rc.of
  obtain ⟨x, y, z, e⟩ := len3i b
  rw [e] at a ⊢
  exact a
theorem Rc.of_write {r : Rc} (h : r.Good) : Rc.of (nums r.xs) = r ∧ (rns 3 (nums r.xs, false)).2 = ([], false) := by
  have e := rns_write r.xs [] false h.nums
  rw [List.append_nil] at e
  have e : rns 3 (nums r.xs, false) = (r.xs, [], false) := e
  unfold Rc.of
  rw [e]
  exact ⟨rfl, rfl⟩
theorem Rc.nlen (r : Rc) : (nums r.xs).length ≤ 65535 := by rw [nums_length]; simp [Rc.xs]
theorem rdF_c (l : List UInt8) : rdF rdI cOs (kc zeroC, (l, false)) = (kc (Rc.of l), (rns 3 (l, false)).2) := rfl
theorem below_setRow {B g : Nat} {a w : World} (h : Below B a w) (hg : B ≤ g) (C : Array Value) : Below B a (w.setRow g C) :=
  ⟨h.os, h.tape, h.output, by have := h.size; simpa [World.setRow] using this, fun i hi => (setRow_other w g i C (by omega)).trans (h.block i hi)⟩
set_option maxRecDepth 100000 in
set_option maxHeartbeats 4000000 in
theorem called_any (A : Option Addr) (n c B : Nat) (l : List UInt8) (w : World) (h : Bts w B A n c l) (hB : B ≤ w.heap.size) : Calls Try.prog 24 #[.slice A n c] w (CalP w l) := by
  obtain ⟨a0, ab, az⟩ := box1 w (Obj.cells #[.int .i64 0, .int .i64 0, .int .i64 0] 52)
  have A0 : Hid (_ = some (Obj.cells (kc zeroC).toArray 52 (0, 0))) := a0
  have AB := Lib.hid ab
  have H := Lib.hid ((h.more hB).below ab)
  have hs0 : w.heap.size < (w.alloc (Obj.cells #[.int .i64 0, .int .i64 0, .int .i64 0] 52)).heap.size := by omega
  clear a0 ab az h
  go_enter Try.func24, Try.ntmps24
  go_wp2_with fail
  generalize w.alloc (Obj.cells #[.int .i64 0, .int .i64 0, .int .i64 0] 52) = W at *
  refine (vopen_any 67 A n c _ l W H.out (Nat.le_of_lt hs0)).mono ?_
  rintro e w1 ⟨f, ok, rest, rfl, hfs, hf, hb, hok⟩
  have HF := Lib.hid hf
  have HB := Lib.hid (AB.out.trans (hb.mono AB.out.size))
  have A1 := Lib.hid ((hb.block w.heap.size hs0).trans A0.out)
  have HOK := Lib.hid hok
  have hf0 : w.heap.size < f := by omega
  have hf1 := hf.lt
  clear hf hb hok A0 AB H
  obtain ⟨b0, bb, bz⟩ := box1 w1 (Obj.cells #[.int .i64 0, .int .i64 0, .int .i64 0] 52)
  have G2 : Hid (_ = some (Obj.cells (kc zeroC).toArray 52 (0, 0))) := b0
  have A2 := Lib.hid ((bb.block w.heap.size (lt_of_heap A1.out)).trans A1.out)
  have F2 := Lib.hid (HF.out.below bb)
  have HB2 := Lib.hid (HB.out.trans (bb.mono HB.out.size))
  clear b0 bb bz A1 HF HB
  go_wp2_with fail
  generalize w1.alloc (Obj.cells #[.int .i64 0, .int .i64 0, .int .i64 0] 52) = w2 at *
  refine (ofRecall_any w1.heap.size w2).mono ?_
  rintro e w3 ⟨A3, n3, c3, rfl, hp, hpf, hb⟩
  have HP := Lib.hid hp
  have HPF : Hid (∀ f', A3 = some ⟨f', 0, none⟩ → f' ≠ w1.heap.size ∧ f' ≠ f) := fun f' e => by
    have h1 := (hpf f' e).1
    have h2 := lt_of_heap G2.out
    have h3 := F2.out.lt
    omega
  have G3 := Lib.hid ((hb.block w1.heap.size (lt_of_heap G2.out)).trans G2.out)
  have A3' := Lib.hid ((hb.block w.heap.size (lt_of_heap A2.out)).trans A2.out)
  have F3 := Lib.hid (F2.out.below hb)
  have HB3 := Lib.hid (HB2.out.trans (hb.mono HB2.out.size))
  have hn3 : n3 ≤ 9 := by rw [← hp.len]; simp [cOs]
  clear hp hpf hb G2 A2 F2 HB2
  go_wp2_with fail
  refine (getI_any cOs A3 n3 c3 w1.heap.size f 52 (kc zeroC) (rest, false) w3 (by omega) HP.out HPF.out G3.out (by decide) F3.out hf1).mono ?_
  rintro e w4 ⟨rfl, hg, hf, hbt⟩
  have G4 : Hid (w4.heap[w1.heap.size]? = some (.cells (kc (Rc.of rest)).toArray 52 (0, 0))) := hg
  have F4 : Hid (FormAt w4 f (rns 3 (rest, false)).2.1 (rns 3 (rest, false)).2.2) := hf
  have A4 := Lib.hid ((hbt.block w.heap.size (lt_of_heap A3'.out) (by omega) (by omega)).trans A3'.out)
  have HB4 := Lib.hid (HB3.out.trans (hbt.below (by omega) (by omega) HB3.out.size))
  clear hg hf hbt HP HPF G3 A3' F3 HB3
  rcases HOK.out with ⟨rfl, hl, hy⟩ | ⟨rfl, hl⟩
  case inr =>
    have HL := Lib.hid hl
    clear hl HOK
    go_wp2_with (first | (refine wpList_store_row rfl 52 _ _ rfl w.heap.size (kc zeroC).toArray (kc zeroC).toArray _ rfl rfl A4.out s52 rfl (all_oneCell_toArray (kc_one zeroC)) ?_) | fail)
    refine bodyPost_ret (ret_row2 rfl rfl (setRow_in _ _ _ (kc zeroC).toArray _ A4.out) Try.underlying52 rfl s52) rfl ?_
    exact ⟨below_setRow HB4.out (Nat.le_refl _) _, .inr ⟨fun r hr => HL.out _ r.nlen, rfl⟩⟩
  have HL := Lib.hid hl
  clear hl hy HOK
  have hez := end_zero (s := (rns 3 (rest, false)).2)
  obtain ⟨x, hx⟩ : ∃ x, endOf (rns 3 (rest, false)).2.1 (rns 3 (rest, false)).2.2 = x := ⟨_, rfl⟩
  rw [hx] at hez
  have HX := Lib.hid hx
  clear hx
  by_cases h0 : x = 0
  case neg =>
    have HN : Hid (∀ r : Rc, r.Good → rest ≠ nums r.xs) := fun r hr e => h0 (hez.2 (by rw [e]; exact (Rc.of_write hr).2))
    clear hez
    go_wp2_with fail
    refine (fend_any f _ _ w4 F4.out).mono ?_
    rintro e w5 ⟨rfl, rfl⟩
    rw [HX.out]
    go_wp2_with (first | (refine wpList_store_row rfl 52 _ _ rfl w.heap.size (kc zeroC).toArray (kc zeroC).toArray _ rfl rfl A4.out s52 rfl (all_oneCell_toArray (kc_one zeroC)) ?_) | fail)
    refine bodyPost_ret (ret_row2 rfl rfl (setRow_in _ _ _ (kc zeroC).toArray _ A4.out) Try.underlying52 rfl s52) rfl ?_
    exact ⟨below_setRow HB4.out (Nat.le_refl _) _, .inr ⟨fun r hr e => HN.out r hr (fram_inj (HL.out.symm.trans e)).2, rfl⟩⟩
  subst h0
  have HE : Hid (rest = nums (Rc.of rest).xs) := Rc.of_back (hez.1 rfl)
  have HW : Hid (∀ r : Rc, r.Good → rest = nums r.xs → Rc.of rest = r) := fun r hr e => by rw [e]; exact (Rc.of_write hr).1
  clear hez
  generalize Rc.of rest = r at *
  go_wp2_with fail
  refine (fend_any f _ _ w4 F4.out).mono ?_
  rintro e w5 ⟨rfl, rfl⟩
  rw [HX.out]
  go_wp2_with (first | (refine wpList_load_row rfl 52 _ rfl w1.heap.size rfl _ _ _ G4.out _ Try.underlying52 rfl s52 ?_) | fail)
  refine (goodC_any r w4).mono ?_
  rintro e w5 ⟨rfl, hb⟩
  have G5 := Lib.hid ((hb.block w1.heap.size (lt_of_heap G4.out)).trans G4.out)
  have A5 := Lib.hid ((hb.block w.heap.size (lt_of_heap A4.out)).trans A4.out)
  have HB5 := Lib.hid (HB4.out.trans (hb.mono HB4.out.size))
  clear hb G4 A4 F4 HB4 HX
  by_cases hg : r.Good
  case neg =>
    have HN : Hid (∀ r' : Rc, r'.Good → rest ≠ nums r'.xs) := fun r' hr e => hg (by rw [HW.out r' hr e]; exact hr)
    rw [decide_eq_false hg]
    clear hg HW HE
    go_wp2_with (first | (refine wpList_store_row rfl 52 _ _ rfl w.heap.size (kc zeroC).toArray (kc zeroC).toArray _ rfl rfl A5.out s52 rfl (all_oneCell_toArray (kc_one zeroC)) ?_) | fail)
    refine bodyPost_ret (ret_row2 rfl rfl (setRow_in _ _ _ _ _ A5.out) Try.underlying52 rfl s52) rfl ?_
    exact ⟨below_setRow HB5.out (Nat.le_refl _) _, .inr ⟨fun r hr e => HN.out r hr (fram_inj (HL.out.symm.trans e)).2, rfl⟩⟩
  have HG := Lib.hid hg
  rw [decide_eq_true hg]
  clear hg HW
  go_wp2_with (first | (refine wpList_store_row rfl 52 _ _ rfl w.heap.size (kc zeroC).toArray (kc r).toArray _ rfl rfl A5.out s52 rfl (all_oneCell_toArray (kc_one r)) ?_) | (refine wpList_load_row rfl 52 _ rfl w1.heap.size rfl _ _ _ G5.out _ Try.underlying52 rfl s52 ?_) | fail)
  refine bodyPost_ret (ret_row2 rfl rfl (setRow_in _ _ _ _ _ A5.out) Try.underlying52 rfl s52) rfl ?_
  exact ⟨below_setRow HB5.out (Nat.le_refl _) _, .inl ⟨r, HG.out, by rw [HL.out, HE.out]; rfl, rfl⟩⟩
end Go.Proofs.Ytfignanjelebaaa
