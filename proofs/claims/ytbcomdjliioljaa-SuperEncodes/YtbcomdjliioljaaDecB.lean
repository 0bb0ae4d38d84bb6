/- super.Decode, walked: what any bytes say. -/
import Derived.Test.YtbcomdjliioljaaDec
import Derived.Laws.ResultCell
import Derived.Laws.Rows
namespace Go.Proofs.Ytbcomdjliioljaa
open Go.RowKit
set_option linter.unusedVariables false

def DecP (w : World) (b : List UInt8) : Bool → Ending → World → Prop
  | true => Said w (num b 0) (num b 1) (num b 2)
  | false => NoSec w
theorem Rd.cells {w wr : World} {b : List UInt8} {g : Nat} (h : Rd w wr b g 3) : wr.cell? ⟨w.heap.size + 1, 0, none⟩ = some (.int .i64 (num b 0)) ∧ wr.cell? ⟨w.heap.size + 1, 1, none⟩ = some (.int .i64 (num b 1)) ∧ wr.cell? ⟨w.heap.size + 1, 2, none⟩ = some (.int .i64 (num b 2)) := by
  refine ⟨?_, ?_, ?_⟩ <;> (rw [F.cell_in h.list]; rfl)
/-- The result's cells, while nobody writes into them. -/
theorem zeros_in {w wr W : World} {b : List UInt8} {g : Nat} (h : Rd w wr b g 3) (hb : Below (wr.heap.size + 1) wr W ∨ Below wr.heap.size wr W) : (∀ j, j < 3 → W.cell? ⟨w.heap.size, j, none⟩ = some (.int .i64 0)) ∧ ∀ j, W.frozen? ⟨w.heap.size, j, none⟩ = false := by
  have hgt := h.gt
  have hlt := h.form.lt
  have hh : W.heap[w.heap.size]? = some (.cells #[.int .i64 0, .int .i64 0, .int .i64 0] 23 (0, 0)) := by
    rcases hb with hb | hb <;> exact (hb.block _ (by omega)).trans h.zero
  refine ⟨fun j hj => ?_, fun j => F.free_in hh j⟩
  rw [F.cell_in hh]
  match j, hj with
  | 0, _ => rfl
  | 1, _ => rfl
  | 2, _ => rfl
theorem info23 : (Try.prog.info? 23).map (·.size) = some 3 := by kernel_rfl
/-- The two results: the beginning out of its cells, and the number beside it. -/
theorem ret10 {tmps : Array Value} {W : World} {g : Nat} {cs : Array Value} (hp : tmps.getD 2 undef = .pointer (some ⟨g, 0, none⟩)) (hg : W.heap[g]? = some (.cells cs 23 (0, 0))) (hs : cs.size = 3) :
    (results Try.f10 tmps).run Try.prog W = .ok (.tuple #[.agg cs, tmps.getD 3 undef]) W := by
  rw [results_cell_tmp (p := 2) (u := 3) (ty := 23) rfl, hp]
  have h := run_loadVar_row (P := Try.prog) W g 23 23 cs (0, 0) _ hg Try.underlying23 rfl (by rw [info23, hs])
  simp only [asAddr, Sem.run_pure, Result.andThen_ok, h]
set_option maxRecDepth 20000 in
set_option maxHeartbeats 2000000 in
theorem decode_128 {w : World} {B c : Nat} {A : Option Addr} {b : List UInt8} {r : Bool} (h : F.Bts w B A 128 c b) (hB : B ≤ w.heap.size) (hr : r = true ↔ IsSec b) : Calls Try.prog 10 #[.slice A 128 c] w (DecP w b r) := by
  have HR := Lib.hid hr
  clear hr
  obtain ⟨bb, off, rfl, hbb, hcell⟩ := h.at_ (by omega)
  have H := Lib.hid (h.more hB)
  have hcap := h.cap
  have hlim := h.lim
  unfold maxLen at hlim
  have HLN := Lib.hid h.len
  have HT := Lib.hid ((h.more hB).tail (s := 4) (by omega))
  rw [if_neg (by omega)] at HT
  clear h hcell
  go_enter Try.func10, Try.ntmps10
  go_wp2_with fail
  refine (F.read_any _ _ _ w.heap.size (b.drop 4) _ (HT.out.below (by go_grown)) (by simp; omega)).mono ?_
  rintro e w1 ⟨rfl, hf1, hb1⟩
  have HRD : Hid (Rd w w1 b (w.heap.size + 1 + 1) 0) := by
    have hs : ((w.alloc (Obj.cells #[.int .i64 0, .int .i64 0, .int .i64 0] 23)).alloc (Obj.cells #[.int .i64 0, .int .i64 0, .int .i64 0] 40)).heap.size = w.heap.size + 1 + 1 := by simp
    rw [hs] at hf1 hb1
    refine ⟨hf1, ?_, ?_, by omega, ?_⟩
    · rw [hb1.block _ (by omega)]
      exact heap_alloc2_old w _ _
    · rw [hb1.block _ (by omega)]
      exact heap_alloc2_new w _ _
    · exact (((Below.refl _ w).alloc (Nat.le_refl _) _).alloc (by simp) _).trans (hb1.mono (by omega))
  clear hf1 hb1
  go_wp2_with fail
  go_loopw [17] (fun i wr => ∃ k : Nat, k ≤ 3 ∧ i = .int .i64 k ∧ Hid (Rd w wr b (w.heap.size + 1 + 1) k)) (fun i _ => 3 - (intOf i).toNat)
  case atStart => exact ⟨0, Nat.zero_le _, rfl, HRD⟩
  case round =>
    clear HRD
    obtain ⟨k, hk, rfl, HRD⟩ := hrel
    by_cases hlt : k < 3
    · go_wp2_with fail
      refine (F.fnum_yes (w.heap.size + 1 + 1) w.heap.size (b.drop (4 + 4 * k)) false wr HRD.out.form (by rw [List.length_drop, HLN.out]; omega)).mono ?_
      rintro e w2 ⟨rfl, hf2, hg2⟩
      obtain ⟨⟨v0, hv0⟩, hfr0, hnext⟩ := HRD.out.next hlt hf2 hg2
      have HN := Lib.hid hnext
      have HE : Hid (F.big ((b.drop (4 + 4 * k)).take 4) = num b k) := rfl
      clear hf2 hg2 hnext
      rw [HE.out]
      generalize num b k = x at *
      go_wp2_with fail
      go_roundw
      case rel => exact ⟨k + 1, by omega, by go_num, HN⟩
      case measure => simp [intOf]; omega
    · obtain rfl : k = 3 := by omega
      obtain ⟨c0, c1, c2⟩ := HRD.out.cells
      go_wp2_with fail
      clear c0 c1 c2
      have hs0 := HRD.out.bel.size
      cases hok : ok (num b 0) (num b 1) (num b 2) with
      | false =>
        obtain rfl : r = false := by
          rw [Bool.eq_false_iff]
          intro e
          have := (HR.out.1 e).2.1
          rw [hok] at this
          cases this
        have HOK := Lib.hid hok
        clear hok
        refine (encode_no _ _ _ _ HOK.out).mono ?_
        rintro e w3 ⟨rfl, hb3⟩
        have HB3 : Hid (Below wr.heap.size wr w3) := (box_below wr _).trans (hb3.mono (by simp))
        have HBF : Below w.heap.size w w3 := HRD.out.bel.trans (HB3.out.mono hs0)
        obtain ⟨hz, hf⟩ := zeros_in HRD.out (.inr HB3.out)
        have HZ : Hid (w3.heap[w.heap.size]? = some (.cells #[.int .i64 0, .int .i64 0, .int .i64 0] 23 (0, 0))) := (HB3.out.block _ (by have := HRD.out.form.lt; omega)).trans HRD.out.zero
        have z0 := hz 0 (by omega)
        have z1 := hz 1 (by omega)
        have z2 := hz 2 (by omega)
        have f0 := hf 0
        have f1 := hf 1
        have f2 := hf 2
        have HBH := Lib.hid HBF
        clear hb3 hz hf HBF
        go_wp2_with fail
        try simp only [Exit.inBlock, Exit.then]
        refine bodyPost_ret (ret10 rfl (F.heap_set (F.heap_set (F.heap_set HZ.out 0 _) 1 _) 2 _) rfl) rfl ?_
        exact ⟨rfl, by have h0 := HBH.out; go_grown⟩
      | true =>
        have HOK := Lib.hid hok
        clear hok
        refine (encode_yes _ _ _ _ HOK.out).mono ?_
        rintro e w3 ⟨v, rfl, hm⟩
        have hb3 := hm.bel
        have HB3 : Hid (Below wr.heap.size wr w3) := (box_below wr _).trans (hb3.mono (by simp))
        have HBF : Hid (Below w.heap.size w w3) := HRD.out.bel.trans (HB3.out.mono hs0)
        obtain ⟨hz, hf⟩ := zeros_in HRD.out (.inr HB3.out)
        have HZ : Hid (w3.heap[w.heap.size]? = some (.cells #[.int .i64 0, .int .i64 0, .int .i64 0] 23 (0, 0))) := (HB3.out.block _ (by have := HRD.out.form.lt; omega)).trans HRD.out.zero
        have z0 := hz 0 (by omega)
        have z1 := hz 1 (by omega)
        have z2 := hz 2 (by omega)
        have f0 := hf 0
        have f1 := hf 1
        have f2 := hf 2
        obtain ⟨s0, s1, s2⟩ := cell3 wr (num b 0) (num b 1) (num b 2) 23 wr.heap.size rfl w3 (hb3.mono (by simp))
        obtain ⟨A3, n3, c3, rfl, h3⟩ := hm.holds
        have HE := Lib.hid (equal_any (w := w3) (H.out.below HBF.out) h3)
        clear hb3 hz hf hm h3
        have hne : w.heap.size ≠ wr.heap.size := by have := HRD.out.form.lt; omega
        by_cases he : b = sec (num b 0) (num b 1) (num b 2)
        · obtain rfl : r = true := HR.out.2 ⟨HLN.out, HOK.out, he⟩
          have HD : Hid (decide (b = sec (num b 0) (num b 1) (num b 2)) = true) := by show _ = _; rw [decide_eq_true_eq]; exact he
          rw [HD.out] at HE
          clear he HD
          go_wp2_with fail
          refine HE.out.mono ?_
          rintro e w4 ⟨rfl, rfl⟩
          go_wp2_with fail
          try simp only [Exit.inBlock, Exit.then]
          refine bodyPost_ret (ret10 rfl (F.heap_set (F.heap_set (F.heap_set HZ.out 0 _) 1 _) 2 _) rfl) rfl ?_
          exact ⟨rfl, by have h0 := HBF.out; go_grown⟩
        · obtain rfl : r = false := by
            rw [Bool.eq_false_iff]
            intro e
            exact he (HR.out.1 e).2.2
          have HD : Hid (decide (b = sec (num b 0) (num b 1) (num b 2)) = false) := by show _ = _; rw [decide_eq_false_iff_not]; exact he
          rw [HD.out] at HE
          clear he HD
          go_wp2_with fail
          refine HE.out.mono ?_
          rintro e w4 ⟨rfl, rfl⟩
          go_wp2_with fail
          try simp only [Exit.inBlock, Exit.then]
          refine bodyPost_ret (ret10 rfl (F.heap_set (F.heap_set (F.heap_set HZ.out 0 _) 1 _) 2 _) rfl) rfl ?_
          exact ⟨rfl, by have h0 := HBF.out; go_grown⟩
theorem decode_any {w : World} {B n c : Nat} {A : Option Addr} {b : List UInt8} {r : Bool} (h : F.Bts w B A n c b) (hB : B ≤ w.heap.size) (hr : r = true ↔ IsSec b) : Calls Try.prog 10 #[.slice A n c] w (DecP w b r) := by
  by_cases hn : n = 128
  · subst hn
    exact decode_128 h hB hr
  · obtain rfl : r = false := by
      rw [Bool.eq_false_iff]
      intro e
      exact hn (h.len.symm.trans (hr.1 e).1)
    exact decode_short A n c w hn
end Go.Proofs.Ytbcomdjliioljaa
