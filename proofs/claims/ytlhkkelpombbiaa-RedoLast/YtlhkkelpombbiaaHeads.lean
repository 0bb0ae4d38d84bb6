/- bytes.Equal, redo.Heads, walked. -/
import Derived.Test.YtlhkkelpombbiaaHeadA
import Derived.Test.YtlhkkelpombbiaaFForm
import Derived.StillTailTactics
namespace Go.Proofs.Ytlhkkelpombbiaa
open Go.RowKit
set_option linter.unusedVariables false

def sb (l : List UInt8) : ByteArray := ⟨l.toArray⟩
theorem sb_size (l : List UInt8) : (sb l).size = l.length := rfl
theorem sb_app (a b : List UInt8) : sb a ++ sb b = sb (a ++ b) := by
  apply ByteArray.ext
  simp [sb]
theorem sb_inj {a b : List UInt8} (h : sb a = sb b) : a = b := by
  have : a.toArray = b.toArray := congrArg ByteArray.data h
  simpa using this
theorem sb_toList (l : List UInt8) : (sb l).toList = l := by
  have h : (sb l).toList = (sb l).data.toList := ByteArray.toList_eq _
  rw [h]; rfl
theorem sb_list (a b : List UInt8) : ((sb a).toList == (sb b).toList) = decide (a = b) := by
  rw [sb_toList, sb_toList]
  by_cases h : a = b
  · subst h; simp
  · simp [h]
theorem fstr {w : World} {B n c : Nat} {A : Option Addr} {l : List UInt8} (h : F.Bts w B A n c l) (W : World) (hW : Below B w W) : (convert 23 9 (.slice A n c)).run Try.prog W = .ok (.string (sb l)) W := h.str W fun p hp => hW.cell hp
theorem equal_any {w : World} {B B' n c n' c' : Nat} {A A' : Option Addr} {l l' : List UInt8} (h : F.Bts w B A n c l) (h' : F.Bts w B' A' n' c' l') :
    Calls Try.prog 35 #[.slice A n c, .slice A' n' c'] w fun e w' => e = .returned (.bool (decide (l = l'))) ∧ w = w' := by
  have h1 := fstr h w (Below.refl _ _)
  have h2 := fstr h' w (Below.refl _ _)
  have HE := Lib.hid (sb_list l l')
  clear h h'
  go_enter Try.func35, Try.ntmps35
  go_wp2_with fail
  go_ret
  exact ⟨retb HE.out, rfl⟩
/-- The row of n numbers that is filled: the first k are laid. -/
def Fill (w : World) (g n : Nat) (f : Nat → Int) (k : Nat) : Prop := ∃ C, w.heap[g]? = some (.cells C 3 (0, 0)) ∧ C.size = n ∧ ∀ j, j < k → C[j]? = some (.int .i64 (f j))
def zi (n : Nat) : Array Value := madeCells #[.int .i64 0] n
theorem makeI (n : Nat) (hn : n * 8 ≤ 140737488355328) (w : World) : (Instr.makeSlice 22 (.int .i64 n) (.int .i64 n)).run Try.prog w = .ok (.slice (some ⟨w.heap.size, 0, none⟩) n n) (w.alloc (.cells (zi n) 3)) := by
  have h : (Try.prog.info? 3).map (fun i => (i.zero, i.size, i.bytes)) = some (some (.int .i64 0), 1, 8) := by kernel_rfl
  cases hq : Try.prog.info? 3 with
  | none => simp [hq] at h
  | some i =>
    simp only [hq, Option.map_some, Option.some.injEq, Prod.mk.injEq] at h
    have := run_make (P := Try.prog) w 22 3 i _ Try.underlying22 hq h.1 .i64 .i64 n n (by omega) (by omega) (by rw [h.2.2]; omega) (by omega)
    rw [this, h.2.1, Nat.mul_one]
    rfl
theorem fill_new (w : World) (n : Nat) (f : Nat → Int) : Fill (w.alloc (.cells (zi n) 3)) w.heap.size n f 0 :=
  ⟨_, heap_alloc_new _ _, size_madeCells _ _, fun j hj => absurd hj (by omega)⟩
section
variable {w w' : World} {g n k : Nat} {f : Nat → Int}
theorem Fill.cell (h : Fill w g n f k) (hk : k < n) : (∃ v, w.cell? ⟨g, k, none⟩ = some v) ∧ w.frozen? ⟨g, k, none⟩ = false := by
  obtain ⟨C, hC, hs, _⟩ := h
  exact ⟨⟨_, by rw [cell_of hC, Array.getElem?_eq_getElem (by omega)]⟩, frozen_of hC k⟩
theorem Fill.step (h : Fill w g n f k) (hk : k < n) {x : Int} (hx : x = f k) : Fill (w.setCell ⟨g, k, none⟩ (.int .i64 x)) g n f (k + 1) := by
  obtain ⟨C, hC, hs, ha⟩ := h
  refine ⟨_, heap_setCell_at hC _, by simp [hs], fun j hj => ?_⟩
  by_cases e : j = k
  · subst e; subst hx; simp [hs, hk]
  · rw [Array.getElem?_setIfInBounds_ne (by omega)]; exact ha j (by omega)
theorem Fill.keep (h : Fill w g n f k) (he : w'.heap[g]? = w.heap[g]?) : Fill w' g n f k := by
  obtain ⟨C, hC, r⟩ := h
  exact ⟨C, he.trans hC, r⟩
theorem Fill.lt (h : Fill w g n f k) : g < w.heap.size := by obtain ⟨C, hC, _⟩ := h; exact (Array.getElem?_eq_some_iff.1 hC).1
theorem Fill.ints (h : Fill w g n f n) (hn : n ≤ maxLen) : Ints w (IM g) (some ⟨g, 0, none⟩) n n ((List.range n).map f) := by
  obtain ⟨C, hC, hs, ha⟩ := h
  exact ⟨by simp, Nat.le_refl _, hn, fun _ => ⟨g, 0, rfl, rfl, fun j hj => by rw [Nat.zero_add, cell_of hC, ha j hj]; simp [hj]⟩⟩
end
/-- What Heads tells: the numbers, in a row of its own, or that it is none. -/
def HeadsP (w : World) (o : Option (List Int)) (e : Ending) (w' : World) : Prop :=
  match o with
  | none => e = .returned (.tuple #[.slice none 0 0, .int .i64 2]) ∧ Below w.heap.size w w'
  | some ns => ∃ g, e = .returned (.tuple #[.slice (some ⟨g, 0, none⟩) ns.length ns.length, .int .i64 0]) ∧ Ints w' (IM g) (some ⟨g, 0, none⟩) ns.length ns.length ns ∧ w.heap.size ≤ g ∧ g < w'.heap.size ∧ Below w.heap.size w w'
theorem or_low (x y : UInt8) : bits .or .i64 (x.toNat : Int) ((y.toNat : Int) * 256) = ((x.toNat + 256 * y.toNat : Nat) : Int) := by
  have hx := x.toNat_lt
  have hy := y.toNat_lt
  have e : (y.toNat : Int) * 256 = ((y.toNat * 256 : Nat) : Int) := by omega
  have o1 : ∀ a : Nat, a < 9223372036854775808 → (BitVec.ofInt 64 (a : Int)).toNat = a := fun a ha => by
    rw [BitVec.ofInt_natCast, BitVec.toNat_ofNat]; exact Nat.mod_eq_of_lt (by omega)
  have hb : x.toNat ||| y.toNat * 256 < 2 ^ 63 := Nat.or_lt_two_pow (by omega) (by omega)
  have h : bits .or .i64 (x.toNat : Int) ((y.toNat * 256 : Nat) : Int) = ((x.toNat ||| y.toNat * 256 : Nat) : Int) := by
    show IntKind.i64.wrap ((BitVec.ofInt 64 (x.toNat : Int) ||| BitVec.ofInt 64 ((y.toNat * 256 : Nat) : Int)).toNat : Int) = _
    rw [BitVec.toNat_or, o1 _ (by omega), o1 _ (by omega), IntKind.wrap_i64]
    omega
  have h2 : x.toNat ||| y.toNat * 256 = x.toNat + 256 * y.toNat := by
    rw [Nat.or_comm, Nat.mul_comm y.toNat 256, ← Nat.two_pow_add_eq_or_of_lt (i := 8) (by omega) y.toNat]
    omega
  rw [e, h, h2]
set_option maxRecDepth 20000 in
set_option maxHeartbeats 1000000 in
theorem heads_short (A : Option Addr) (n c : Nat) (w : World) (hn : n ≠ 128) :
    Calls Try.prog 10 #[.slice A n c] w fun e w' => e = .returned (.tuple #[.slice none 0 0, .int .i64 2]) ∧ w = w' := by
  have h1 : ((n : Int) != 128) = true := by rw [bne_iff_ne]; omega
  go_enter Try.func10, Try.ntmps10
  go_wp2_with fail
  go_ret2
  exact ⟨rfl, rfl⟩
set_option maxRecDepth 20000 in
set_option maxHeartbeats 2000000 in
theorem heads_128 {w : World} {B c : Nat} {A : Option Addr} {b : List UInt8} (h : F.Bts w B A 128 c b) (hB : B ≤ w.heap.size) : Calls Try.prog 10 #[.slice A 128 c] w (HeadsP w (isHd b)) := by
  obtain ⟨o, ho⟩ : ∃ o, isHd b = o := ⟨_, rfl⟩
  rw [ho]
  have HO := Lib.hid ho
  clear ho
  obtain ⟨bb, off, rfl, hbb, hcell⟩ := h.at_ (by omega)
  have H := Lib.hid h
  have hcap := h.cap
  have hlim := h.lim
  unfold maxLen at hlim
  have HLN := Lib.hid h.len
  have HT := Lib.hid (h.tail (s := 4) (by omega))
  rw [if_neg (by omega)] at HT
  clear h hcell
  go_enter Try.func10, Try.ntmps10
  go_wp2_with fail
  refine (F.read_any _ _ _ B _ w HT.out hB).mono ?_
  rintro e w1 ⟨rfl, hf1, hb1⟩
  have HF1 := Lib.hid hf1
  have HB1 := Lib.hid hb1
  clear hf1 hb1
  go_wp2_with fail
  refine (F.fnum_yes w.heap.size (b.drop 4) false w1 HF1.out (by rw [List.length_drop, HLN.out]; omega)).mono ?_
  rintro e w2 ⟨rfl, hf2, hg2⟩
  have HB2 : Hid (Below w.heap.size w w2) := HB1.out.grown hg2 HB1.out.size (fun j hj => by cases hj; exact Nat.le_refl _)
  clear hf2 hg2
  have HC : Hid (F.big ((b.drop 4).take 4) = cnt b) := rfl
  rw [HC.out]
  by_cases hc24 : 24 < cnt b
  · obtain rfl : o = none := by
      rw [← HO.out]
      unfold isHd
      rw [if_neg]
      intro hk
      have := hk.2.1
      omega
    have hc1 : decide (24 < (cnt b : Int)) = true := by simp; omega
    go_wp2_with fail
    go_ret2
    exact ⟨rfl, HB2.out⟩
  · have hc1 : decide (24 < (cnt b : Int)) = false := by simp; omega
    generalize hk : cnt b = k at *
    have HK := Lib.hid hk
    clear hk
    have hmk := makeI k (by omega) w2
    go_wp2_with fail
    clear hmk hc1
    have hsz2 := HB2.out.size
    go_loopw [27] (fun i wr => ∃ j : Nat, j ≤ k ∧ i = .int .i64 j ∧ Hid (Fill wr w2.heap.size k (num b) j) ∧ Hid (Below w.heap.size w wr)) (fun i _ => k - (intOf i).toNat)
    case atStart => exact ⟨0, Nat.zero_le _, rfl, fill_new _ _ _, HB2.out.alloc hsz2 _⟩
    case round =>
      clear HB2
      obtain ⟨j, hj, rfl, HF, HB⟩ := hrel
      by_cases hlt : j < k
      · obtain ⟨⟨v0, hv0⟩, hfr0⟩ := HF.out.cell hlt
        obtain ⟨bb1, off1, e1, hbb1, hx⟩ := (H.out.below (HB.out.mono hB)).cell (k := 8 + 2 * j) (by omega)
        cases e1
        obtain ⟨bb2, off2, e2, hbb2, hy⟩ := (H.out.below (HB.out.mono hB)).cell (k := 8 + 2 * j + 1) (by omega)
        cases e2
        have HN : Hid (num b j = ((b[8 + 2 * j]?.getD 0).toNat + 256 * (b[8 + 2 * j + 1]?.getD 0).toNat : Nat)) := rfl
        generalize b[8 + 2 * j]?.getD 0 = x at *
        generalize b[8 + 2 * j + 1]?.getD 0 = y at *
        have hxl := x.toNat_lt
        have hyl := y.toNat_lt
        have hne : bb ≠ w2.heap.size := by omega
        have HB0 := Lib.hid HB.out
        have HW := Lib.hid hsz2
        generalize hG : w2.heap.size = G at *
        clear hG
        go_wp2_with fail
        have hp : 8 + 2 * (j : Int) = ((8 + 2 * j : Nat) : Int) := by omega
        have hp1 : 8 + 2 * j + 1 < 128 := by omega
        rw [hp]
        generalize 8 + 2 * j = p at *
        clear hp
        have hi0 : (0 : Int) ≤ (p : Int) := by omega
        have hi1 : (p : Int) < 128 := by omega
        have hi2 : ((p + 1 : Nat) : Int) < 128 := by omega
        have hi4 : (0 : Int) ≤ ((p + 1 : Nat) : Int) := by omega
        have hw1 : IntKind.i64.wrap ((p : Int) + 1) = ((p + 1 : Nat) : Int) := by rw [IntKind.wrap_i64]; omega
        have hw2 : IntKind.i64.wrap (x.toNat : Int) = (x.toNat : Int) := by rw [IntKind.wrap_i64]; omega
        have hw3 : IntKind.i64.wrap (y.toNat : Int) = (y.toNat : Int) := by rw [IntKind.wrap_i64]; omega
        have hw4 : IntKind.i64.wrap ((y.toNat : Int) * 256) = (y.toNat : Int) * 256 := by rw [IntKind.wrap_i64]; omega
        have hj0 : (0 : Int) ≤ (j : Int) := by omega
        have hj1 : (j : Int) < (k : Int) := by omega
        generalize hq : p + 1 = q at *
        clear hq
        go_still_tail 16, (by kernel_rfl)
        change wpList _ _ _ _ _ wr.drew
        have hv0' : wr.drew.cell? ⟨G, j, none⟩ = some v0 := hv0
        have hfr0' : wr.drew.frozen? ⟨G, j, none⟩ = false := hfr0
        go_wp2_with fail
        refine ⟨⟨j + 1, by omega, by go_num, (HF.out.step hlt (by rw [HN.out, or_low])).keep rfl, (HB.out.setCell (p := ⟨G, j, none⟩) HW.out _).drew⟩, by simp [intOf]; omega⟩
      · obtain rfl : j = k := by omega
        have HI : Hid (Ints wr (IM w2.heap.size) (some ⟨w2.heap.size, 0, none⟩) j j (nums b j)) := HF.out.ints (by unfold maxLen; omega)
        have HIM : Hid (∀ q, IM w2.heap.size q → q < wr.heap.size) := fun q hq => by cases hq; exact HF.out.lt
        cases hg : good (nums b j) with
        | false =>
          obtain rfl : o = none := by
            rw [← HO.out]
            unfold isHd
            rw [if_neg]
            intro hk
            have h1 := hk.2.2.1
            rw [HK.out, hg] at h1
            cases h1
          have HG := Lib.hid hg
          clear hg
          go_wp2_with fail
          refine (head_no HI.out HG.out).mono ?_
          rintro e w3 ⟨rfl, rfl⟩
          go_wp2_with fail
          go_ret2
          exact ⟨rfl, HB.out⟩
        | true =>
          have HG := Lib.hid hg
          clear hg
          go_wp2_with fail
          refine (head_yes HI.out HIM.out HG.out).mono ?_
          rintro e w3 ⟨v, rfl, hm⟩
          obtain ⟨A3, n3, c3, rfl, h3⟩ := hm.holds
          have H3 := Lib.hid h3
          have HB3 := Lib.hid hm.bel
          clear h3 hm
          have HB4 : Hid (Below w.heap.size w w3) := HB.out.trans (HB3.out.mono HB.out.size)
          have HE := Lib.hid (equal_any (w := w3) ((H.out.below (HB4.out.mono hB))) H3.out)
          by_cases he : b = hd (nums b j)
          · have HD : Hid (decide (b = hd (nums b j)) = true) := by show _ = _; simpa using he
            obtain rfl : o = some (nums b j) := by
              rw [← HO.out]
              unfold isHd
              have hk : HdOk b := by
                unfold HdOk
                rw [HK.out]
                exact ⟨HLN.out, by omega, HG.out, he.symm⟩
              rw [if_pos hk, HK.out]
            clear he
            go_wp2_with fail
            refine HE.out.mono ?_
            rintro e w4 ⟨rfl, rfl⟩
            rw [HD.out]
            go_wp2_with fail
            go_ret2
            have hln := nums_len b j
            refine ⟨w2.heap.size, ?_, ?_, hsz2, Nat.lt_of_lt_of_le HF.out.lt HB3.out.size, HB4.out⟩
            · rw [hln]; rfl
            · rw [hln]
              exact HI.out.keep fun q hq => HB3.out.block q (HIM.out q hq)
          · have HD : Hid (decide (b = hd (nums b j)) = false) := by show _ = _; simpa using he
            obtain rfl : o = none := by
              rw [← HO.out]
              unfold isHd
              rw [if_neg]
              intro hk
              have h1 := hk.2.2.2
              rw [HK.out] at h1
              exact he h1.symm
            clear he
            go_wp2_with fail
            refine HE.out.mono ?_
            rintro e w4 ⟨rfl, rfl⟩
            rw [HD.out]
            go_wp2_with fail
            go_ret2
            exact ⟨rfl, HB4.out⟩
theorem isHd_len {b : List UInt8} (h : b.length ≠ 128) : isHd b = none := by
  unfold isHd
  rw [if_neg]
  exact fun hk => h hk.1
theorem heads_any {w : World} {B n c : Nat} {A : Option Addr} {b : List UInt8} (h : F.Bts w B A n c b) (hB : B ≤ w.heap.size) : Calls Try.prog 10 #[.slice A n c] w (HeadsP w (isHd b)) := by
  by_cases hn : n = 128
  · subst hn
    exact heads_128 h hB
  · rw [isHd_len (by rw [h.len]; exact hn)]
    refine (heads_short A n c w hn).mono ?_
    rintro e w' ⟨rfl, rfl⟩
    exact ⟨rfl, Below.refl _ _⟩
end Go.Proofs.Ytlhkkelpombbiaa
