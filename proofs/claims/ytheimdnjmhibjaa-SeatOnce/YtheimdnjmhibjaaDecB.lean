/- seat.Decode, walked: what any bytes say. -/
import Derived.Test.YtheimdnjmhibjaaDec
namespace Go.Proofs.Ytheimdnjmhibjaa
open Go.RowKit
set_option linter.unusedVariables false

def DecP (w : World) (b : List UInt8) : Bool → Ending → World → Prop
  | true => Said w (num b 0) (num b 1) (rep b)
  | false => NoSec w
theorem info24 : (Try.prog.info? 24).map (·.size) = some 3 := by kernel_rfl
/-- The two results: the seat out of its cells, and the number beside it. -/
theorem ret11 {tmps : Array Value} {W : World} {g : Nat} {cs : Array Value} (hp : tmps.getD 2 undef = .pointer (some ⟨g, 0, none⟩)) (hg : W.heap[g]? = some (.cells cs 24 (0, 0))) (hs : cs.size = 3) :
    (results Try.f11 tmps).run Try.prog W = .ok (.tuple #[.agg cs, tmps.getD 3 undef]) W := by
  rw [results_cell_tmp (p := 2) (u := 3) (ty := 24) rfl, hp]
  have h := run_loadVar_row (P := Try.prog) W g 24 24 cs (0, 0) _ hg Try.underlying24 rfl (by rw [info24, hs])
  simp only [asAddr, Sem.run_pure, Result.andThen_ok, h]
set_option maxRecDepth 20000 in
set_option maxHeartbeats 2000000 in
theorem decode_128 {w : World} {B c : Nat} {A : Option Addr} {b : List UInt8} {r : Bool} (h : F.Bts w B A 128 c b) (hB : B ≤ w.heap.size) (hl : len b ≤ 96) (hr : r = true ↔ IsSec b) : Calls Try.prog 11 #[.slice A 128 c] w (DecP w b r) := by
  have HRI := Lib.hid hr
  clear hr
  obtain ⟨bb, off, rfl, hbb, hcell⟩ := h.at_ (by omega)
  have H := Lib.hid (h.more hB)
  have hc12 : ∀ o, (w.alloc o).cell? ⟨bb, off + 12, none⟩ = some (.int .u8 (len b : Int)) := fun o => ((box_below w o).cell (by show bb < _; omega)).trans (hcell 12 (by omega))
  have hlt := len_lt b
  have hcap := h.cap
  have hlim := h.lim
  unfold maxLen at hlim
  have HLN := Lib.hid h.len
  have HT := Lib.hid ((h.more hB).tail (s := 4) (by omega))
  rw [if_neg (by omega)] at HT
  obtain ⟨m, hm⟩ : ∃ m, len b = m := ⟨_, rfl⟩
  have HM := Lib.hid hm
  rw [hm] at hc12 hl hlt
  clear h hcell hm
  go_enter Try.func11, Try.ntmps11
  go_wp2_with fail
  refine (F.read_any _ _ _ w.heap.size (b.drop 4) _ (HT.out.below (by go_grown)) (by simp)).mono ?_
  rintro e w1 ⟨rfl, hf1, hb1⟩
  clear hc12
  have HR : Hid (F.Bts w w.heap.size (some ⟨bb, off + 13, none⟩) m (c - 13) (rep b)) := by
    have h1 := H.out.tail (s := 13) (by omega)
    rw [if_neg (by omega)] at h1
    have h2 := h1.head (s := m) (by omega)
    rw [← HM.out] at h2 ⊢
    exact h2
  have HS0 : Hid (St w w1.drew b 0 none) := by
    have hs1 : (w.alloc (Obj.cells #[.int .i64 0, .int .i64 0, .slice none 0 0] 24)).heap.size = w.heap.size + 1 := by simp
    rw [hs1] at hf1 hb1
    refine St.drew ⟨hf1, ?_, (box_below w _).trans (hb1.mono (by omega)), fun p hp => by cases hp⟩
    rw [hb1.block _ (by omega)]
    exact heap_alloc_new w _
  have b0 : (0 : Int) ≤ (m : Int) := by omega
  have b1 : (13 : Int) + (m : Int) ≤ (c : Int) := by omega
  have b2 : (13 : Int) ≤ 13 + (m : Int) := by omega
  have b3 : IntKind.i64.wrap (13 + (m : Int)) = 13 + (m : Int) := by rw [IntKind.wrap_i64]; omega
  have b4 : (0 : Int) ≤ 13 + (m : Int) := by omega
  have b5 : (13 : Int) ≤ (c : Int) := by omega
  have b6 : (13 + (m : Int)).toNat - 13 = m := by omega
  clear hf1 hb1
  go_upto_region 7 with fail
  go_cut [6] from 23 to 32 (fun s6 wx => ∃ p A n c', s6 = .pointer (some ⟨p, 0, none⟩) ∧ Hid (Dn w wx b p A n c'))
  case first =>
    go_region_with (first
      | (go_at_call 23; refine (num_st 0 (by omega) HLN.out HS0.out).mono ?_; rintro e w2 ⟨rfl, h2⟩; have HS1 := Lib.hid h2; clear h2)
      | (go_at_call 23; refine (num_st 0 (by omega) HLN.out (HS0.out.alloc w1.heap.size rfl)).mono ?_; rintro e w2 ⟨rfl, h2⟩; have HS1 := Lib.hid h2; clear h2)
      | (go_at_call 23; refine (num_st 1 (by omega) HLN.out HS1.out).mono ?_; rintro e w3 ⟨rfl, h3⟩; have HS2 := Lib.hid h3; clear h3)
      | (go_at_call 23; refine (num_st 1 (by omega) HLN.out (HS1.out.alloc w2.heap.size rfl)).mono ?_; rintro e w3 ⟨rfl, h3⟩; have HS2 := Lib.hid h3; clear h3)
      | (go_at_call 24; refine (clone_st HR.out hl HS2.out).mono ?_; rintro e w4 ⟨A', n', c', rfl, hB4, h4⟩; have HS3 := Lib.hid h4; clear h4; have HB4 := Lib.hid hB4; clear hB4; try (obtain ⟨z0, z1, z2, f0, f1, f2⟩ := HS3.out.cells))
      | (go_at_call 24; refine (clone_st HR.out hl (HS2.out.alloc w3.heap.size rfl)).mono ?_; rintro e w4 ⟨A', n', c', rfl, hB4, h4⟩; have HS3 := Lib.hid h4; clear h4; have HB4 := Lib.hid hB4; clear hB4; try (obtain ⟨z0, z1, z2, f0, f1, f2⟩ := HS3.out.cells)))
    all_goals (go_wp2_with fail; go_meet; first | exact ⟨_, _, _, _, rfl, Dn.new HS3.out HB4.out⟩ | exact ⟨_, _, _, _, rfl, Dn.put HS3.out HB4.out⟩)
  case rest =>
    obtain ⟨p, A', n', c', rfl, HD⟩ := hcut
    clear HS0 HR b0 b1 b2 b3 b4 b5 b6
    have k0 := F.cell_in HD.out.seat 0
    have k1 := F.cell_in HD.out.seat 1
    have k2 := F.cell_in HD.out.seat 2
    have hn' : n' = m := by rw [← HD.out.bts.len, rep_len HLN.out (by rw [HM.out]; exact hl), HM.out]
    subst hn'
    have hs0 := HD.out.bel.size
    have hzl := F.lt_of_heap HD.out.zero
    have hpl := F.lt_of_heap HD.out.seat
    cases hok : ok (num b 0) (num b 1) n' with
    | false =>
      obtain rfl : r = false := by
        rw [Bool.eq_false_iff]
        intro e
        have := (HRI.out.1 e).2.2.1
        rw [HM.out, hok] at this
        cases this
      have HOK := Lib.hid hok
      clear hok
      go_wp2_with fail
      refine (encode_no _ _ _ _ _ _ HOK.out).mono ?_
      rintro e w3 ⟨rfl, hb3⟩
      have HZ : Hid (w3.heap[w.heap.size]? = some (.cells Z24 24 (0, 0))) := (hb3.block _ hzl).trans HD.out.zero
      have HBF : Hid (Below w.heap.size w w3) := HD.out.bel.trans (hb3.mono hs0)
      have z0 := F.cell_in HZ.out 0
      have z1 := F.cell_in HZ.out 1
      have z2 := F.cell_in HZ.out 2
      have f0 := F.free_in HZ.out 0
      have f1 := F.free_in HZ.out 1
      have f2 := F.free_in HZ.out 2
      clear hb3 k0 k1 k2
      go_wp2_with fail
      try simp only [Exit.inBlock, Exit.then]
      refine bodyPost_ret (ret11 rfl (F.heap_set (F.heap_set (F.heap_set HZ.out 0 _) 1 _) 2 _) rfl) rfl ?_
      exact ⟨rfl, by have h0 := HBF.out; go_grown⟩
    | true =>
      have HOK := Lib.hid hok
      clear hok
      go_wp2_with fail
      refine (encode_yes (num b 0) (num b 1) A' n' c' _ (rep b) _ HD.out.bts (Nat.le_refl _) HOK.out).mono ?_
      rintro e w3 ⟨v, rfl, hm⟩
      have hb3 := hm.bel
      have HZ : Hid (w3.heap[w.heap.size]? = some (.cells Z24 24 (0, 0))) := (hb3.block _ hzl).trans HD.out.zero
      have HP : Hid (w3.heap[p]? = some (.cells #[.int .i64 (num b 0 : Nat), .int .i64 (num b 1 : Nat), .slice A' n' c'] 24 (0, 0))) := (hb3.block _ hpl).trans HD.out.seat
      have HBF : Hid (Below w.heap.size w w3) := HD.out.bel.trans (hb3.mono hs0)
      have HRB : Hid (F.Bts w3 w3.heap.size A' n' c' (rep b)) := (HD.out.bts.below hb3).more hb3.size
      have z0 := F.cell_in HZ.out 0
      have z1 := F.cell_in HZ.out 1
      have z2 := F.cell_in HZ.out 2
      have f0 := F.free_in HZ.out 0
      have f1 := F.free_in HZ.out 1
      have f2 := F.free_in HZ.out 2
      have s0 := F.cell_in HP.out 0
      have s1 := F.cell_in HP.out 1
      have s2 := F.cell_in HP.out 2
      obtain ⟨A3, n3, c3, rfl, h3⟩ := hm.holds
      have HE := Lib.hid (equal_any (w := w3) (H.out.below HBF.out) h3)
      clear hb3 hm h3 k0 k1 k2
      have hne : w.heap.size ≠ p := by have := HD.out.gt; omega
      have HFAR : Hid (∀ g o, A' = some ⟨g, o, none⟩ → g ≠ w.heap.size) := fun g o e => by have := HD.out.far g o e; omega
      by_cases he : b = sec (num b 0) (num b 1) (rep b)
      · obtain rfl : r = true := HRI.out.2 ⟨HLN.out, by rw [HM.out]; exact hl, by rw [HM.out]; exact HOK.out, he⟩
        have HDC : Hid (decide (b = sec (num b 0) (num b 1) (rep b)) = true) := by show _ = _; rw [decide_eq_true_eq]; exact he
        rw [HDC.out] at HE
        clear he HDC
        go_wp2_with fail
        refine HE.out.mono ?_
        rintro e w4 ⟨rfl, rfl⟩
        go_wp2_with fail
        try simp only [Exit.inBlock, Exit.then]
        refine bodyPost_ret (ret11 rfl (F.heap_set (F.heap_set (F.heap_set HZ.out 0 _) 1 _) 2 _) rfl) rfl ?_
        refine ⟨A', n', c', rfl, ?_, by have h0 := HBF.out; go_grown⟩
        have := bts_set (bts_set (bts_set HRB.out HFAR.out 0 (.int .i64 (num b 0 : Nat))) HFAR.out 1 (.int .i64 (num b 1 : Nat))) HFAR.out 2 (.slice A' n' c')
        simpa using this
      · obtain rfl : r = false := by
          rw [Bool.eq_false_iff]
          intro e
          exact he (HRI.out.1 e).2.2.2
        have HDC : Hid (decide (b = sec (num b 0) (num b 1) (rep b)) = false) := by show _ = _; rw [decide_eq_false_iff_not]; exact he
        rw [HDC.out] at HE
        clear he HDC
        go_wp2_with fail
        refine HE.out.mono ?_
        rintro e w4 ⟨rfl, rfl⟩
        go_wp2_with fail
        try simp only [Exit.inBlock, Exit.then]
        refine bodyPost_ret (ret11 rfl (F.heap_set (F.heap_set (F.heap_set HZ.out 0 _) 1 _) 2 _) rfl) rfl ?_
        exact ⟨rfl, by have h0 := HBF.out; go_grown⟩
theorem decode_any {w : World} {B n c : Nat} {A : Option Addr} {b : List UInt8} {r : Bool} (h : F.Bts w B A n c b) (hB : B ≤ w.heap.size) (hr : r = true ↔ IsSec b) : Calls Try.prog 11 #[.slice A n c] w (DecP w b r) := by
  by_cases hn : n = 128
  · subst hn
    by_cases hl : len b ≤ 96
    · exact decode_128 h hB hl hr
    · obtain rfl : r = false := by
        rw [Bool.eq_false_iff]
        intro e
        exact hl (hr.1 e).2.1
      exact decode_long h hB (by omega)
  · obtain rfl : r = false := by
      rw [Bool.eq_false_iff]
      intro e
      exact hn (h.len.symm.trans (hr.1 e).1)
    exact decode_short A n c w hn
/-- What was encoded is decoded. -/
theorem decode_sec {w : World} {B n cap a b : Nat} {A : Option Addr} {r : List UInt8} (h : F.Bts w B A n cap (sec a b r)) (hB : B ≤ w.heap.size) (hok : ok a b r.length = true) : Calls Try.prog 11 #[.slice A n cap] w (Said w a b r) := by
  obtain ⟨_, _, _, _, h96⟩ := ok_iff.1 hok
  have hd := decode_any (r := true) h hB ⟨fun _ => isSec_sec hok, fun _ => rfl⟩
  have e0 := num_sec0 a b r (by omega)
  have e1 := num_sec1 a b r (by omega)
  have e2 := rep_sec a b h96
  unfold DecP at hd
  rw [e0, e1, e2] at hd
  exact hd
end Go.Proofs.Ytheimdnjmhibjaa
