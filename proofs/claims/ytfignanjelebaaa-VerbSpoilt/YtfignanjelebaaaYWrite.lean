/- package verb: Call, Short, Encode: what is good is written as its frame. -/
import Derived.Test.YtfignanjelebaaaYGood
namespace Go.Proofs.Ytfignanjelebaaa
open Go.RowKit
set_option linter.unusedVariables false
theorem ptrs_new {w : World} {f : Nat} {t : TypeId} {fr : Nat × Nat} {ps : List (Nat × Nat)} {C : Array Value} (h : w.heap[f]? = some (.cells C t fr)) (hC : C = (ps.map PV).toArray) (ht : t ≠ 5) : Ptrs w (some ⟨f, 0, none⟩) ps.length ps :=
  ⟨rfl, fun k hk => ⟨f, rfl, C, t, fr, h, ht, by rw [hC]; simp [hk]⟩⟩
theorem Byt.at_end {base : Nat} {w : World} {v : Value} {l : List UInt8} (h : Byt base w v l) : ∃ A n c, v = .slice A n c ∧ Bts w w.heap.size A n c l := own_holds h
theorem Kps.alloc {base : Nat} {w0 w : World} (h : Kps base w0 w) (o : Obj) : Kps base w0 (w.alloc o) := h.trans (.of_below (below_alloc w o))
theorem Byt.alloc {base : Nat} {w : World} {v : Value} {l : List UInt8} (h : Byt base w v l) (o : Obj) : Byt base (w.alloc o) v l := h.keep_below (below_alloc w o)
set_option maxRecDepth 100000 in
set_option maxHeartbeats 4000000 in
theorem call_any (r : Rc) (w : World) : Calls Try.prog 22 #[.agg (kc r).toArray] w (SlcE w r.Good r.frame) := by
  obtain ⟨a0, ab, az⟩ := box1 w (Obj.cells (kc r).toArray 52)
  have A0 := Lib.hid a0
  have AB := Lib.hid ab
  clear a0 ab az
  go_enter Try.func22, Try.ntmps22
  go_wp2_with (first | (refine wpList_load_row rfl 52 _ rfl w.heap.size rfl _ _ _ A0.out _ Try.underlying52 rfl s52 ?_) | fail)
  generalize w.alloc (Obj.cells (kc r).toArray 52) = W at *
  refine (goodC_any r W).mono ?_
  rintro e w1 ⟨rfl, hb⟩
  have HB := Lib.hid (AB.out.trans (hb.mono AB.out.size))
  have A1 := Lib.hid ((hb.block w.heap.size (lt_of_heap A0.out)).trans A0.out)
  clear hb A0 AB
  by_cases hg : r.Good
  case neg =>
    have HN := Lib.hid hg
    rw [decide_eq_false hg]
    clear hg
    go_wp2_with fail
    go_ret2
    exact ⟨HB.out, .inr ⟨HN.out, none, 0, 0, Bts.nil_ _ _, rfl⟩⟩
  have HG := Lib.hid hg
  rw [decide_eq_true hg]
  clear hg
  go_wp2_with fail
  refine (ofRecall_any w.heap.size w1).mono ?_
  rintro e w2 ⟨A2, n2, c2, rfl, hp, hf, hb⟩
  have HP := Lib.hid hp
  have HB2 := Lib.hid (HB.out.trans (hb.mono HB.out.size))
  have A2' := Lib.hid ((hb.block w.heap.size (lt_of_heap A1.out)).trans A1.out)
  have hn2 : n2 ≤ 9 := by rw [← hp.len]; simp [cOs]
  clear hp hf hb A1 HB
  go_wp2_with fail
  refine (putI_any _ r.xs A2 n2 c2 (.slice none 0 0) [] w.heap.size w2 HG.out.nums (by have := nums_length r.xs; unfold nums at this; rw [this]; simp [Rc.xs]) (by omega) HB2.out.size (Byt.nil_ _ _) HP.out (flds_of A2'.out (by decide) rfl)).mono ?_
  rintro e w3 ⟨v, rfl, hv, hk⟩
  obtain ⟨A3, n3, c3, rfl, hB3⟩ := Byt.at_end hv
  have HB3 := Lib.hid (HB2.out.trans (hk.below HB2.out.size))
  have H3 := Lib.hid (show Bts w3 w3.heap.size A3 n3 c3 (nums r.xs) from hB3)
  have hn3 : n3 ≤ 65535 := by
    have := H3.out.len
    rw [nums_length] at this
    simp [Rc.xs] at this
    omega
  clear hv hk hB3 HP A2' HB2
  go_wp2_with fail
  refine (frame_yes 67 A3 n3 c3 _ _ w3 H3.out (Nat.le_refl _) hn3).mono ?_
  rintro e w4 ⟨v, rfl, hm⟩
  obtain ⟨A4, n4, c4, rfl, hB4⟩ := hm.holds
  have H4 := Lib.hid hB4
  have HB4 := Lib.hid (HB3.out.trans (hm.bel.mono HB3.out.size))
  clear hm hB4
  go_wp2_with fail
  go_ret2
  exact ⟨HB4.out, .inl ⟨HG.out, _, _, _, H4.out, rfl⟩⟩
def ShortP (w : World) (good : Prop) (l : List UInt8) (e : Ending) (w' : World) : Prop := Below w.heap.size w w' ∧ ((good ∧ ∃ A n c, Bts w' w'.heap.size A n c l ∧ e = .returned (.slice A n c)) ∨ (¬ good ∧ ∃ A n c, Bts w' w'.heap.size A n c [] ∧ e = .returned (.slice A n c)))
set_option maxRecDepth 100000 in
set_option maxHeartbeats 4000000 in
theorem short_q (r : Rp) (A X : Option Addr) (n c m d B : Nat) (w : World) (hd : Bts w B A n c r.d) (hS : Strs w B X m d r.ns) (hB : B ≤ w.heap.size) : Calls Try.prog 25 #[.agg (rc r A n c X m d).toArray] w (ShortP w r.Good r.short) := by
  obtain ⟨a0, ab, az⟩ := box1 w (Obj.cells (rc r A n c X m d).toArray 44)
  have A0 := Lib.hid a0
  have AB := Lib.hid ab
  have HS := Lib.hid (hS.below (ab.mono hB))
  have hnd := hd.len
  have hBW := Nat.le_trans hB ab.size
  clear a0 ab az hS hd
  go_enter Try.func25, Try.ntmps25
  go_wp2_with (first | (refine wpList_load_row rfl 44 _ rfl w.heap.size rfl _ _ _ A0.out _ Try.underlying44 rfl s44 ?_) | fail)
  generalize w.alloc (Obj.cells (rc r A n c X m d).toArray 44) = W at *
  refine (goodR_any r A X n c m d B W hnd HS.out hBW).mono ?_
  rintro e w1 ⟨rfl, hb⟩
  have HB := Lib.hid (AB.out.trans (hb.mono AB.out.size))
  have A1 := Lib.hid ((hb.block w.heap.size (lt_of_heap A0.out)).trans A0.out)
  clear hb A0 AB
  by_cases hg : r.Good
  case neg =>
    have HN := Lib.hid hg
    rw [decide_eq_false hg]
    clear hg
    go_wp2_with fail
    go_ret
    exact ⟨HB.out, .inr ⟨HN.out, none, 0, 0, Bts.nil_ _ _, rfl⟩⟩
  have HG := Lib.hid hg
  rw [decide_eq_true hg]
  clear hg
  go_wp2_with fail
  refine (ofChange_any w.heap.size w1).mono ?_
  rintro e w2 ⟨A2, n2, c2, rfl, hp, hf, hb⟩
  have HP := Lib.hid hp
  have HB2 := Lib.hid (HB.out.trans (hb.mono HB.out.size))
  have A2' := Lib.hid ((hb.block w.heap.size (lt_of_heap A1.out)).trans A1.out)
  have hn2 : n2 ≤ 9 := by rw [← hp.len]; simp [sOs]
  clear hp hf hb A1 HB
  go_wp2_with fail
  refine (putI_any _ (r.e :: r.st) A2 n2 c2 (.slice none 0 0) [] w.heap.size w2 (fun x hx => HG.out.nums x (short_in hx)) (by have := nums_length (r.e :: r.st); unfold nums at this; rw [this]; simp [Rp.st]) (by omega) HB2.out.size (Byt.nil_ _ _) HP.out (flds_of A2'.out (by decide) rfl)).mono ?_
  rintro e w3 ⟨v, rfl, hv, hk⟩
  obtain ⟨A3, n3, c3, rfl, hB3⟩ := Byt.at_end hv
  have HB3 := Lib.hid (HB2.out.trans (hk.below HB2.out.size))
  have H3 := Lib.hid (show Bts w3 w3.heap.size A3 n3 c3 (nums (r.e :: r.st)) from hB3)
  clear hv hk hB3 HP A2' HB2
  go_wp2_with fail
  go_ret
  exact ⟨HB3.out, .inl ⟨HG.out, _, _, _, H3.out, rfl⟩⟩
set_option maxRecDepth 100000 in
set_option maxHeartbeats 4000000 in
theorem encode_any (v : Vb) (A : Option Addr) (n c B : Nat) (w : World) (hd : Bts w B A n c v.d) (hB : B ≤ w.heap.size) : Calls Try.prog 10 #[.agg (vc v A n c).toArray] w (SlcE w v.Good v.frame) := by
  obtain ⟨a0, ab, az⟩ := box1 w (Obj.cells (vc v A n c).toArray 26)
  have A0 := Lib.hid a0
  have AB := Lib.hid ab
  have HD := Lib.hid (hd.more hB)
  have hnd := hd.len
  clear a0 ab az hd
  go_enter Try.func10, Try.ntmps10
  go_wp2_with (first | (refine wpList_load_row rfl 26 _ rfl w.heap.size rfl _ _ _ A0.out _ Try.underlying26 rfl s26 ?_) | fail)
  generalize w.alloc (Obj.cells (vc v A n c).toArray 26) = W at *
  refine (good_any v A n c W hnd).mono ?_
  rintro e w1 ⟨rfl, hb⟩
  have HB := Lib.hid (AB.out.trans (hb.mono AB.out.size))
  have A1 := Lib.hid ((hb.block w.heap.size (lt_of_heap A0.out)).trans A0.out)
  clear hb A0 AB
  by_cases hg : v.Good
  case neg =>
    have HN := Lib.hid hg
    rw [decide_eq_false hg]
    clear hg
    go_wp2_with fail
    go_ret2
    exact ⟨HB.out, .inr ⟨HN.out, none, 0, 0, Bts.nil_ _ _, rfl⟩⟩
  have HG := Lib.hid hg
  rw [decide_eq_true hg]
  clear hg
  go_wp2_with fail
  refine (ofVerb_any w.heap.size w1).mono ?_
  rintro e w2 ⟨A2, n2, c2, rfl, hp, hf, hb⟩
  have HP := Lib.hid hp
  have HB2 := Lib.hid (HB.out.trans (hb.mono HB.out.size))
  have A2' := Lib.hid ((hb.block w.heap.size (lt_of_heap A1.out)).trans A1.out)
  have hn2 : n2 ≤ 12 := by rw [← hp.len]; simp [vOs]
  have hlv := nums_length v.ns
  simp only [Vb.ns, List.length_cons, List.length_nil] at hlv
  clear hp hf hb A1 HB
  go_wp2_with fail
  refine (putI_any _ v.ns A2 n2 c2 (.slice none 0 0) [] w.heap.size w2 HG.out.ns (by have := nums_length v.ns; unfold nums at this; rw [this]; simp [Vb.ns]) (by omega) HB2.out.size (Byt.nil_ _ _) HP.out (flds_of A2'.out (by decide) rfl)).mono ?_
  rintro e w3 ⟨b1, rfl, hv, hk⟩
  have HB3 := Lib.hid (HB2.out.trans (hk.below HB2.out.size))
  have H3 := Lib.hid (show Byt w.heap.size w3 b1 (nums v.ns) from hv)
  have A3 := Lib.hid ((hk.block w.heap.size (lt_of_heap A2'.out) (.inr ⟨_, _, _, A2'.out, by decide⟩)).trans A2'.out)
  clear hv hk HP A2' HB2
  go_wp2_with fail
  have B4 := Lib.hid (H3.out.alloc (Obj.cells #[Value.pointer (some ⟨w.heap.size, 5, none⟩), Value.pointer (some ⟨w.heap.size, 6, none⟩)] 72))
  have A4 := Lib.hid (((below_alloc w3 (Obj.cells #[Value.pointer (some ⟨w.heap.size, 5, none⟩), Value.pointer (some ⟨w.heap.size, 6, none⟩)] 72)).block w.heap.size (lt_of_heap A3.out)).trans A3.out)
  have P4 := Lib.hid (ptrs_new (ps := [(w.heap.size, 5), (w.heap.size, 6)]) (heap_alloc_new w3 (Obj.cells #[Value.pointer (some ⟨w.heap.size, 5, none⟩), Value.pointer (some ⟨w.heap.size, 6, none⟩)] 72)) rfl (by decide))
  have HB4 := Lib.hid (HB3.out.alloc HB3.out.size (Obj.cells #[Value.pointer (some ⟨w.heap.size, 5, none⟩), Value.pointer (some ⟨w.heap.size, 6, none⟩)] 72))
  generalize w3.alloc (Obj.cells #[Value.pointer (some ⟨w.heap.size, 5, none⟩), Value.pointer (some ⟨w.heap.size, 6, none⟩)] 72) = w4 at *
  have hlp := HG.out.1.2.2.2.2.2.2.2.1
  have hlo := HG.out.1.2.2.2.2.2.2.2.2
  have hld := HG.out.dl
  refine (putS_any _ [v.p, v.o] _ 2 2 b1 (nums v.ns) w.heap.size w4 (by
    intro x hx
    simp only [List.mem_cons, List.not_mem_nil, or_false] at hx
    rcases hx with rfl | rfl <;> omega) (by simp only [List.flatMap_cons, List.flatMap_nil, List.append_nil, List.length_append, txt_length, nums_length, Vb.ns, List.length_cons, List.length_nil]; omega) (by omega) HB4.out.size B4.out P4.out (flds_of (os := [5, 6]) A4.out (by decide) rfl)).mono ?_
  rintro e w5 ⟨b2, rfl, hv, hk⟩
  have HB5 := Lib.hid (HB4.out.trans (hk.below HB4.out.size))
  have H5 := Lib.hid hv
  have A5 := Lib.hid ((hk.block w.heap.size (lt_of_heap A4.out) (.inr ⟨_, _, _, A4.out, by decide⟩)).trans A4.out)
  clear hv hk B4 A4 P4 HB4 HB3 H3 A3
  go_wp2_with fail
  have B6 := Lib.hid (H5.out.alloc (Obj.cells #[Value.pointer (some ⟨w.heap.size, 12, none⟩)] 75))
  have A6 := Lib.hid (((below_alloc w5 (Obj.cells #[Value.pointer (some ⟨w.heap.size, 12, none⟩)] 75)).block w.heap.size (lt_of_heap A5.out)).trans A5.out)
  have P6 := Lib.hid (ptrs_new (ps := [(w.heap.size, 12)]) (heap_alloc_new w5 (Obj.cells #[Value.pointer (some ⟨w.heap.size, 12, none⟩)] 75)) rfl (by decide))
  have HB6 := Lib.hid (HB5.out.alloc HB5.out.size (Obj.cells #[Value.pointer (some ⟨w.heap.size, 12, none⟩)] 75))
  generalize w5.alloc (Obj.cells #[Value.pointer (some ⟨w.heap.size, 12, none⟩)] 75) = w6 at *
  have hle : (nums v.ns ++ [v.p, v.o].flatMap txt).length = 44 + v.p.length + v.o.length := by
    simp only [List.flatMap_cons, List.flatMap_nil, List.append_nil, List.length_append, txt_length, nums_length, Vb.ns, List.length_cons, List.length_nil]
    omega
  refine (putB_any _ [(.slice A n c, v.d)] _ 1 1 b2 _ w.heap.size w6 (by
    intro x hx
    obtain rfl := List.mem_singleton.1 hx
    exact ⟨holds_of (HD.out.below HB6.out), by show v.d.length ≤ 65535; omega⟩) (by rw [hle]; simp only [List.flatMap_cons, List.flatMap_nil, List.append_nil, txt_length]; omega) (by omega) HB6.out.size B6.out P6.out (flds_of (os := [12]) A6.out (by decide) rfl)).mono ?_
  rintro e w7 ⟨b3, rfl, hv, hk⟩
  have HB7 := Lib.hid (HB6.out.trans (hk.below HB6.out.size))
  obtain ⟨A7, n7, c7, rfl, hB7⟩ := Byt.at_end hv
  have hbody : (nums v.ns ++ [v.p, v.o].flatMap txt) ++ [(Value.slice A n c, v.d)].flatMap (fun x : Value × List UInt8 => txt x.2) = v.body := by simp [Vb.body]
  rw [hbody] at hB7
  have H7 := Lib.hid hB7
  have hn7 : n7 ≤ 65535 := by
    have := H7.out.len
    have := HG.out.len
    omega
  clear hv hk hB7 B6 A6 P6 HB6 HB5 H5 A5 hbody hle
  go_wp2_with fail
  refine (frame_yes 81 A7 n7 c7 _ _ w7 H7.out (Nat.le_refl _) hn7).mono ?_
  rintro e w8 ⟨v8, rfl, hm⟩
  obtain ⟨A8, n8, c8, rfl, hB8⟩ := hm.holds
  have H8 := Lib.hid hB8
  have HB8 := Lib.hid (HB7.out.trans (hm.bel.mono HB7.out.size))
  clear hm hB8
  go_wp2_with fail
  go_ret2
  exact ⟨HB8.out, .inl ⟨HG.out, _, _, _, H8.out, rfl⟩⟩
end Go.Proofs.Ytfignanjelebaaa
