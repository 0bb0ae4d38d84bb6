/- tree.Decode, walked. -/
import Derived.Test.YtijbgdihnjnllaaGreatTEnc
import Derived.StillTailTactics
namespace Go.Proofs.YtijbgdihnjnllaaGreat.T
open Go.RowKit
set_option linter.unusedVariables false

theorem Tryz.info3 : (Tryz.prog.info? 3).map (fun i => (i.zero, i.size, i.bytes)) = some (some (.int .i64 0), 1, 8) := by kernel_rfl
/-- The row of n numbers that is filled: the first k are laid. -/
def Fill (w : World) (g n : Nat) (f : Nat → Int) (k : Nat) : Prop := ∃ C, w.heap[g]? = some (.cells C 3 (0, 0)) ∧ C.size = n ∧ ∀ j, j < k → C[j]? = some (.int .i64 (f j))
def zi (n : Nat) : Array Value := madeCells #[.int .i64 0] n
theorem makeI (w : World) : (Instr.makeSlice 54 (.int .i64 8) (.int .i64 8)).run Tryz.prog w = .ok (.slice (some ⟨w.heap.size, 0, none⟩) 8 8) (w.alloc (.cells (zi 8) 3)) := by
  obtain ⟨i0, hi, hz0, hz1, hz2⟩ := info_parts Tryz.info3
  have := run_make (P := Tryz.prog) w 54 3 i0 _ Tryz.underlying54 hi hz0 .i64 .i64 8 8 (by omega) (by omega) (by rw [hz2]; omega) (by omega)
  rw [this, hz1]
  rfl
theorem fill_new (w : World) (n : Nat) (f : Nat → Int) : Fill (w.alloc (.cells (zi n) 3)) w.heap.size n f 0 :=
  ⟨_, heap_alloc_new _ _, size_madeCells _ _, fun j hj => absurd hj (by omega)⟩
section
variable {w w' : World} {g n k : Nat} {f : Nat → Int}
theorem Fill.cell (h : Fill w g n f k) (hk : k < n) : (∃ v, w.cell? ⟨g, k, none⟩ = some v) ∧ w.frozen? ⟨g, k, none⟩ = false := by
  obtain ⟨C, hC, hs, _⟩ := h
  exact ⟨⟨_, by rw [cell_in hC, Array.getElem?_eq_getElem (by omega)]⟩, free_in hC k⟩
theorem Fill.step (h : Fill w g n f k) (hk : k < n) {x : Int} (hx : x = f k) : Fill (w.setCell ⟨g, k, none⟩ (.int .i64 x)) g n f (k + 1) := by
  obtain ⟨C, hC, hs, ha⟩ := h
  refine ⟨_, heap_set hC _ _, by simp [hs], fun j hj => ?_⟩
  by_cases e : j = k
  · subst e; subst hx; simp [hs, hk]
  · rw [Array.getElem?_setIfInBounds_ne (by omega)]; exact ha j (by omega)
theorem Fill.keep (h : Fill w g n f k) (he : w'.heap[g]? = w.heap[g]?) : Fill w' g n f k := by
  obtain ⟨C, hC, r⟩ := h
  exact ⟨C, he.trans hC, r⟩
theorem Fill.lt (h : Fill w g n f k) : g < w.heap.size := by obtain ⟨C, hC, _⟩ := h; exact (Array.getElem?_eq_some_iff.1 hC).1
theorem Fill.ints (h : Fill w g n f n) (hn : n ≤ maxLen) : Ints w w.heap.size (some ⟨g, 0, none⟩) n n ((List.range n).map f) := by
  have hlt := h.lt
  obtain ⟨C, hC, hs, ha⟩ := h
  exact ⟨by simp, Nat.le_refl _, hn, fun _ => ⟨g, 0, rfl, hlt, fun j hj => by rw [Nat.zero_add, cell_in hC, ha j hj]; simp [hj]⟩⟩
end
theorem or_low (x y : UInt8) : bits .or .i64 (x.toNat : Int) ((y.toNat : Int) * 256) = ((x.toNat + 256 * y.toNat : Nat) : Int) := by
  have hx := x.toNat_lt
  have hy := y.toNat_lt
  have e : (y.toNat : Int) * 256 = ((y.toNat * 256 : Nat) : Int) := by omega
  have o1 : ∀ a : Nat, a < 9223372036854775808 → (BitVec.ofInt 64 (a : Int)).toNat = a := fun a ha => by
    rw [BitVec.ofInt_natCast, BitVec.toNat_ofNat]; exact Nat.mod_eq_of_lt (by omega)
  have hb : x.toNat ||| y.toNat * 256 < 2 ^ 63 := Nat.or_lt_two_pow (by omega) (by omega)
  have h : bits .or .i64 (x.toNat : Int) ((y.toNat * 256 : Nat) : Int) = ((x.toNat ||| y.toNat * 256 : Nat) : Int) := by
    show IntKind.i64.wrap ((BitVec.ofInt 64 (x.toNat : Int) ||| BitVec.ofInt 64 ((y.toNat * 256 : Nat) : Int)).toNat : Int) = _
    rw [BitVec.toNat_or, o1 _ (by omega), o1 _ (by omega), IntKind.wrap_i64]
    omega
  have h2 : x.toNat ||| y.toNat * 256 = x.toNat + 256 * y.toNat := by
    rw [Nat.or_comm, Nat.mul_comm y.toNat 256, ← Nat.two_pow_add_eq_or_of_lt (i := 8) (by omega) y.toNat]
    omega
  rw [e, h, h2]
theorem Fill.row {w : World} {g n : Nat} {f : Nat → Int} (h : Fill w g n f n) : w.heap[g]? = some (.cells (((List.range n).map f).map iv).toArray 3 (0, 0)) := by
  obtain ⟨C, hC, hs, ha⟩ := h
  rw [hC]
  congr 2
  apply Array.ext_getElem?
  intro j
  by_cases hj : j < n
  · rw [ha j hj]; simp [hj, iv]
  · rw [Array.getElem?_eq_none (by omega), Array.getElem?_eq_none (by simp; omega)]
/-- What Decode tells: the numbers, in a row of its own, or that it is none. -/
def DecP (w : World) (o : Option (List Int)) (e : Ending) (w' : World) : Prop :=
  match o with
  | none => e = .returned (.tuple #[.slice none 0 0, .int .i64 2]) ∧ Below w.heap.size w w'
  | some ns => ∃ g, e = .returned (.tuple #[.slice (some ⟨g, 0, none⟩) 8 8, .int .i64 0]) ∧ Ints w' w'.heap.size (some ⟨g, 0, none⟩) 8 8 ns ∧ Below w.heap.size w w' ∧ w.heap.size ≤ g ∧ w'.heap[g]? = some (.cells (ns.map iv).toArray 3 (0, 0))
set_option maxRecDepth 20000 in
set_option maxHeartbeats 2000000 in
theorem dec_128 {w : World} {B c : Nat} {A : Option Addr} {b : List UInt8} (h : Bts w B A 128 c b) (hB : B ≤ w.heap.size) : Calls Tryz.prog 170 #[.slice A 128 c] w (DecP w (isPt b)) := by
  obtain ⟨o, ho⟩ : ∃ o, isPt b = o := ⟨_, rfl⟩
  rw [ho]
  have HO := Lib.hid ho
  clear ho
  obtain ⟨bb, off, rfl, hbb, hcell⟩ := h.at_ (by omega)
  have H := Lib.hid h
  have hcap := h.cap
  have hlim := h.lim
  unfold maxLen at hlim
  have HLN := Lib.hid h.len
  clear h hcell
  have hmk := makeI w
  go_enter Tryz.func170, Tryz.ntmps170
  go_wp2_with fail
  clear hmk
  go_loopw [14] (fun i wr => ∃ j : Nat, j ≤ 8 ∧ i = .int .i64 j ∧ Hid (Fill wr w.heap.size 8 (num b) j) ∧ Hid (Below w.heap.size w wr)) (fun i _ => 8 - (intOf i).toNat)
  case atStart => exact ⟨0, Nat.zero_le _, rfl, fill_new _ _ _, box_below _ _⟩
  case round =>
    obtain ⟨j, hj, rfl, HF, HB⟩ := hrel
    by_cases hlt : j < 8
    · obtain ⟨⟨v0, hv0⟩, hfr0⟩ := HF.out.cell hlt
      obtain ⟨bb1, off1, e1, hbb1, hx⟩ := (H.out.below (HB.out.mono hB)).cell (k := 2 * j) (by omega)
      cases e1
      obtain ⟨bb2, off2, e2, hbb2, hy⟩ := (H.out.below (HB.out.mono hB)).cell (k := 2 * j + 1) (by omega)
      cases e2
      have HN : Hid (num b j = ((b[2 * j]?.getD 0).toNat + 256 * (b[2 * j + 1]?.getD 0).toNat : Nat)) := rfl
      generalize b[2 * j]?.getD 0 = x at *
      generalize b[2 * j + 1]?.getD 0 = y at *
      have hxl := x.toNat_lt
      have hyl := y.toNat_lt
      have hne : bb ≠ w.heap.size := by omega
      have HW : Hid (w.heap.size ≤ w.heap.size) := Nat.le_refl _
      generalize hG : w.heap.size = G at *
      clear hG
      have hp : IntKind.i64.wrap (2 * (j : Int)) = ((2 * j : Nat) : Int) := by rw [IntKind.wrap_i64]; omega
      have hp1 : 2 * j + 1 < 128 := by omega
      generalize 2 * j = p at *
      have hi0 : (0 : Int) ≤ (p : Int) := by omega
      have hi1 : (p : Int) < 128 := by omega
      have hi2 : ((p + 1 : Nat) : Int) < 128 := by omega
      have hi4 : (0 : Int) ≤ ((p + 1 : Nat) : Int) := by omega
      have hw1 : IntKind.i64.wrap ((p : Int) + 1) = ((p + 1 : Nat) : Int) := by rw [IntKind.wrap_i64]; omega
      have hw2 : IntKind.i64.wrap (x.toNat : Int) = (x.toNat : Int) := by rw [IntKind.wrap_i64]; omega
      have hw3 : IntKind.i64.wrap (y.toNat : Int) = (y.toNat : Int) := by rw [IntKind.wrap_i64]; omega
      have hw4 : IntKind.i64.wrap ((y.toNat : Int) * 256) = (y.toNat : Int) * 256 := by rw [IntKind.wrap_i64]; omega
      have hj0 : (0 : Int) ≤ (j : Int) := by omega
      have hj1 : (j : Int) < 8 := by omega
      generalize hq : p + 1 = q at *
      clear hq
      go_wp2_with fail
      go_still_tail 18, (by kernel_rfl)
      change wpList _ _ _ _ _ wr.drew
      have hv0' : wr.drew.cell? ⟨G, j, none⟩ = some v0 := hv0
      have hfr0' : wr.drew.frozen? ⟨G, j, none⟩ = false := hfr0
      go_wp2_with fail
      refine ⟨⟨j + 1, by omega, by go_num, (HF.out.step hlt (by rw [HN.out, or_low])).keep rfl, (HB.out.setCell (p := ⟨G, j, none⟩) (Nat.le_refl _) _).drew⟩, by simp [intOf]; omega⟩
    · obtain rfl : j = 8 := by omega
      have HI : Hid (Ints wr wr.heap.size (some ⟨w.heap.size, 0, none⟩) 8 8 (dec b)) := HF.out.ints (by unfold maxLen; omega)
      have HFL := Lib.hid HF.out.lt
      have HRW : Hid (wr.heap[w.heap.size]? = some (.cells ((dec b).map iv).toArray 3 (0, 0))) := HF.out.row
      cases hg : okl (dec b) with
      | false =>
        obtain rfl : o = none := by
          rw [← HO.out]
          unfold isPt
          rw [if_neg]
          intro hk
          have h1 := hk.2.1
          rw [hg] at h1
          cases h1
        have HE := Lib.hid (enc_any HI.out (Nat.le_refl _))
        rw [isEnc_no hg] at HE
        clear hg
        go_wp2_with fail
        refine HE.out.mono ?_
        rintro e w3 ⟨rfl, hb3⟩
        have HB4 : Hid (Below w.heap.size w w3) := HB.out.trans (hb3.mono HB.out.size)
        clear hb3
        go_wp2_with fail
        go_ret2
        exact ⟨rfl, HB4.out⟩
      | true =>
        have HG := Lib.hid hg
        have HE := Lib.hid (enc_any HI.out (Nat.le_refl _))
        rw [isEnc_yes hg] at HE
        clear hg
        go_wp2_with fail
        refine HE.out.mono ?_
        rintro e w3 ⟨g, rfl, h3, hb3⟩
        have H3 := Lib.hid h3
        have HB3 := Lib.hid hb3
        have HB4 : Hid (Below w.heap.size w w3) := HB.out.trans (hb3.mono HB.out.size)
        clear h3 hb3
        have HE2 := Lib.hid (equal_any (w := w3) H3.out (H.out.below (HB4.out.mono hB)))
        by_cases he : encS (dec b) 8 = b
        · have HD : Hid (decide (encS (dec b) 8 = b) = true) := by show _ = _; simpa using he
          obtain rfl : o = some (dec b) := by
            rw [← HO.out]
            unfold isPt
            rw [if_pos ⟨HLN.out, HG.out, he⟩]
          clear he
          go_wp2_with fail
          refine HE2.out.mono ?_
          rintro e w4 ⟨rfl, rfl⟩
          rw [HD.out]
          go_wp2_with fail
          go_ret2
          exact ⟨w.heap.size, rfl, (HI.out.below HB3.out).more HB3.out.size, HB4.out, Nat.le_refl _, (HB3.out.block _ HFL.out).trans HRW.out⟩
        · have HD : Hid (decide (encS (dec b) 8 = b) = false) := by show _ = _; simpa using he
          obtain rfl : o = none := by
            rw [← HO.out]
            unfold isPt
            rw [if_neg]
            exact fun hk => he hk.2.2
          clear he
          go_wp2_with fail
          refine HE2.out.mono ?_
          rintro e w4 ⟨rfl, rfl⟩
          rw [HD.out]
          go_wp2_with fail
          go_ret2
          exact ⟨rfl, HB4.out⟩
end Go.Proofs.YtijbgdihnjnllaaGreat.T
