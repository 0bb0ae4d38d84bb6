/- package verb: Answer: a good reply is written as its frame. -/
import Derived.Test.YtfignanjelebaaaYWrite
namespace Go.Proofs.Ytfignanjelebaaa
open Go.RowKit
set_option linter.unusedVariables false
theorem Kps.row {base g : Nat} {w w' : World} {C : Array Value} {t : TypeId} {fr : Nat × Nat} (hk : Kps base w w') (h : w.heap[g]? = some (.cells C t fr)) (ht : t ≠ 5) : w'.heap[g]? = some (.cells C t fr) :=
  (hk.block g (lt_of_heap h) (.inr ⟨_, _, _, h, ht⟩)).trans h
theorem eps_flds {base : Nat} {w : World} {b off n c B : Nat} {A : Option Addr} {l : List (List UInt8)} (h : Strs w B A n c l) (hA : 0 < n → A = some ⟨b, off, none⟩) (hB : B ≤ base) (hb : base ≤ w.heap.size) : Flds base w (eps b off n) (l.map (fun s : List UInt8 => Value.string ⟨s.toArray⟩)) := by
  have hl : (eps b off n).length = n := eps_length b off n
  refine ⟨by rw [hl, List.length_map, h.len], fun k hk => ?_⟩
  rw [hl] at hk
  obtain ⟨b', off', e, hb', hc⟩ := h.cell hk
  rw [hA (by omega)] at e
  cases e
  have e1 : (eps b off n)[k] = (b, off + k) := by simp [eps]
  rw [e1]
  have hkl : k < l.length := by rw [h.len]; exact hk
  refine ⟨⟨?_, .inl ?_⟩, ?_⟩
  · show b < w.heap.size; omega
  · show b < base; omega
  · rw [hc]
    simp [hkl]
def ptr1 (g o t : Nat) : Obj := Obj.cells #[Value.pointer (some ⟨g, o, none⟩)] t
set_option maxRecDepth 100000 in
set_option maxHeartbeats 4000000 in
theorem answer_any (r : Rp) (A X : Option Addr) (n c m d B : Nat) (w : World) (hd : Bts w B A n c r.d) (hS : Strs w B X m d r.ns) (hB : B ≤ w.heap.size) : Calls Try.prog 18 #[.agg (rc r A n c X m d).toArray] w (SlcE w r.Good r.frame) := by
  obtain ⟨a0, ab, az⟩ := box1 w (Obj.cells (rc r A n c X m d).toArray 44)
  have A0 := Lib.hid a0
  have AB := Lib.hid ab
  have HD := Lib.hid (hd.more hB)
  have HS := Lib.hid (hS.more hB)
  have HS1 := Lib.hid ((hS.more hB).below ab)
  have hnd := hd.len
  have hBW := ab.size
  clear a0 ab az hS hd
  go_enter Try.func18, Try.ntmps18
  go_wp2_with (first | (refine wpList_load_row rfl 44 _ rfl w.heap.size rfl _ _ _ A0.out _ Try.underlying44 rfl s44 ?_) | fail)
  generalize w.alloc (Obj.cells (rc r A n c X m d).toArray 44) = W at *
  refine (goodR_any r A X n c m d w.heap.size W hnd HS1.out hBW).mono ?_
  rintro e w1 ⟨rfl, hb⟩
  have HB := Lib.hid (AB.out.trans (hb.mono AB.out.size))
  have A1 := Lib.hid ((hb.block w.heap.size (lt_of_heap A0.out)).trans A0.out)
  clear hb A0 AB HS1 hBW
  by_cases hg : r.Good
  case neg =>
    have HN := Lib.hid hg
    rw [decide_eq_false hg]
    clear hg
    go_wp2_with fail
    go_ret2
    exact ⟨HB.out, .inr ⟨HN.out, none, 0, 0, Bts.nil_ _ _, rfl⟩⟩
  have HG := Lib.hid hg
  rw [decide_eq_true hg]
  clear hg
  go_wp2_with fail
  refine (ofReply_any w.heap.size w1).mono ?_
  rintro e w2 ⟨A2, n2, c2, rfl, hp, hf, hb⟩
  have HP := Lib.hid hp
  have HB2 := Lib.hid (HB.out.trans (hb.mono HB.out.size))
  have A2' := Lib.hid ((hb.block w.heap.size (lt_of_heap A1.out)).trans A1.out)
  have hn2 : n2 ≤ 12 := by rw [← hp.len]; simp [rOs, sOs, cOs]
  clear hp hf hb A1 HB
  go_wp2_with fail
  refine (putI_any _ r.xs A2 n2 c2 (.slice none 0 0) [] w.heap.size w2 HG.out.nums (by have := nums_length r.xs; unfold nums at this; rw [this]; simp [Rp.xs, Rp.st]) (by omega) HB2.out.size (Byt.nil_ _ _) HP.out (flds_of A2'.out (by decide) rfl)).mono ?_
  rintro e w3 ⟨b1, rfl, hv, hk⟩
  have HB3 := Lib.hid (HB2.out.trans (hk.below HB2.out.size))
  have H3 := Lib.hid (show Byt w.heap.size w3 b1 (nums r.xs) from hv)
  have A3 := Lib.hid (hk.row A2'.out (by decide))
  clear hv hk HP A2' HB2
  go_wp2_with fail
  have B4 := Lib.hid (H3.out.alloc (ptr1 w.heap.size 10 75))
  have A4 := Lib.hid (((below_alloc w3 (ptr1 w.heap.size 10 75)).block w.heap.size (lt_of_heap A3.out)).trans A3.out)
  have P4 := Lib.hid (ptrs_new (ps := [(w.heap.size, 10)]) (heap_alloc_new w3 (ptr1 w.heap.size 10 75)) rfl (by decide))
  have HB4 := Lib.hid (HB3.out.alloc HB3.out.size (ptr1 w.heap.size 10 75))
  unfold ptr1 at B4 A4 P4 HB4
  generalize w3.alloc (Obj.cells #[Value.pointer (some ⟨w.heap.size, 10, none⟩)] 75) = w4 at *
  have hld := HG.out.1.2.2.1
  have hlm := HG.out.1.2.2.2.1
  have hml := HS.out.len
  have hle : (nums r.xs).length = 40 := by
    rw [nums_length]
    simp [Rp.xs, Rp.st]
  refine (putB_any _ [(.slice A n c, r.d)] _ 1 1 b1 _ w.heap.size w4 (by
    intro x hx
    obtain rfl := List.mem_singleton.1 hx
    exact ⟨holds_of (HD.out.below HB4.out), by show r.d.length ≤ 65535; omega⟩) (by rw [hle]; simp only [List.flatMap_cons, List.flatMap_nil, List.append_nil, txt_length]; omega) (by omega) HB4.out.size B4.out P4.out (flds_of (os := [10]) A4.out (by decide) rfl)).mono ?_
  rintro e w5 ⟨b2, rfl, hv, hk⟩
  have HB5 := Lib.hid (HB4.out.trans (hk.below HB4.out.size))
  have e5 : nums r.xs ++ [(Value.slice A n c, r.d)].flatMap (fun x : Value × List UInt8 => txt x.2) = nums r.xs ++ txt r.d := by simp
  have H5 := Lib.hid hv
  rw [e5] at H5
  have A5 := Lib.hid (hk.row A4.out (by decide))
  have c11 := (rc_cells A5.out).2.2.2.2.2.2.2.2.2.2.2
  clear hv hk B4 A4 P4 HB4 HB3 H3 A3 e5
  go_wp2_with fail
  obtain ⟨x0, x1, xb, xz⟩ := box2 w5 (Obj.cells #[Value.int .i64 (m : Int)] 3) (ptr1 w5.heap.size 0 97)
  have hxk : Kps w.heap.size w5 ((w5.alloc (Obj.cells #[Value.int .i64 (m : Int)] 3)).alloc (ptr1 w5.heap.size 0 97)) := .of_below xb
  have B6 := Lib.hid (H5.out.keep_below xb)
  have A6 := Lib.hid (hxk.row A5.out (by decide))
  have I6 := Lib.hid x0
  have P6 := Lib.hid (ptrs_new (ps := [(w5.heap.size, 0)]) x1 rfl (by decide))
  have HB6 := Lib.hid (HB5.out.trans (xb.mono HB5.out.size))
  clear x0 x1 xb xz hxk c11 H5
  unfold ptr1 at B6 A6 I6 P6 HB6
  generalize (w5.alloc (Obj.cells #[Value.int .i64 (m : Int)] 3)).alloc (Obj.cells #[Value.pointer (some ⟨w5.heap.size, 0, none⟩)] 97) = w6 at *
  have hle6 : (nums r.xs ++ txt r.d).length = 42 + r.d.length := by rw [List.length_append, hle, txt_length]; omega
  refine (putI_any _ [(m : Int)] _ 1 1 b2 _ w.heap.size w6 (by
    intro x hx
    obtain rfl := List.mem_singleton.1 hx
    omega) (by rw [hle6]; simp only [List.flatMap_cons, List.flatMap_nil, List.append_nil, lit_length]; omega) (by omega) HB6.out.size B6.out P6.out (flds_of (os := [0]) (C := [Value.int .i64 (m : Int)]) I6.out (by decide) rfl)).mono ?_
  rintro e w7 ⟨b3, rfl, hv, hk⟩
  have HB7 := Lib.hid (HB6.out.trans (hk.below HB6.out.size))
  have e7 : (nums r.xs ++ txt r.d) ++ [(m : Int)].flatMap (fun x : Int => lit 4 x.toNat) = nums r.xs ++ txt r.d ++ lit 4 m := by simp
  have H7 := Lib.hid hv
  rw [e7] at H7
  have A7 := Lib.hid (hk.row A6.out (by decide))
  have c11 := (rc_cells A7.out).2.2.2.2.2.2.2.2.2.2.2
  clear hv hk B6 A6 I6 P6 HB6 HB5 A5 e7
  obtain ⟨xb, xo, hX⟩ : ∃ b off, 0 < m → X = some ⟨b, off, none⟩ := by
    rcases Nat.eq_zero_or_pos m with h0 | h0
    · exact ⟨0, 0, fun h => by omega⟩
    · obtain ⟨b, off, e, _⟩ := HS.out.at_ h0
      exact ⟨b, off, fun _ => e⟩
  have HX := Lib.hid hX
  clear hX
  go_wp2_with fail
  refine (each_any X xb xo m d w7 HX.out (by omega)).mono ?_
  rintro e w8 ⟨A8, n8, c8, rfl, hp, hf, hb⟩
  have HB8 := Lib.hid (HB7.out.trans (hb.mono HB7.out.size))
  have P8 := Lib.hid hp
  have B8 := Lib.hid (H7.out.keep_below hb)
  have hn8 : n8 ≤ 512 := by have := hp.len; rw [eps_length] at this; omega
  clear hp hf hb H7 c11 A7
  go_wp2_with fail
  have hfew := HG.out.2.1
  have htl := texts_length r.ns hfew
  have hle8 : (nums r.xs ++ txt r.d ++ lit 4 m).length = 46 + r.d.length := by rw [List.length_append, hle6, lit_length]; omega
  refine (putS_any _ r.ns A8 n8 c8 b3 _ w.heap.size w8 (fun x hx => Nat.le_trans (hfew x hx) (by omega)) (by rw [hle8]; omega) (by omega) HB8.out.size B8.out P8.out (eps_flds (HS.out.below HB8.out) HX.out (Nat.le_refl _) HB8.out.size)).mono ?_
  rintro e w9 ⟨b4, rfl, hv, hk⟩
  have HB9 := Lib.hid (HB8.out.trans (hk.below HB8.out.size))
  obtain ⟨A9, n9, c9, rfl, hB9⟩ := Byt.at_end hv
  have hbody : (nums r.xs ++ txt r.d ++ lit 4 m) ++ r.ns.flatMap txt = r.body := by rw [← hml]; simp [Rp.body]
  rw [hbody] at hB9
  have H9 := Lib.hid hB9
  have hn9 : n9 ≤ 65535 := by
    have := H9.out.len
    have := HG.out.len
    omega
  clear hv hk hB9 B8 P8 HB8 HB7 hbody
  go_wp2_with fail
  refine (frame_yes 65 A9 n9 c9 _ _ w9 H9.out (Nat.le_refl _) hn9).mono ?_
  rintro e w10 ⟨v10, rfl, hm⟩
  obtain ⟨A10, n10, c10, rfl, hB10⟩ := hm.holds
  have H10 := Lib.hid hB10
  have HB10 := Lib.hid (HB9.out.trans (hm.bel.mono HB9.out.size))
  clear hm hB10
  go_wp2_with fail
  go_ret2
  exact ⟨HB10.out, .inl ⟨HG.out, _, _, _, H10.out, rfl⟩⟩
end Go.Proofs.Ytfignanjelebaaa
