/- Names, walked; slices.Sort and slices.Compact on texts of the call's own. -/
import Derived.Test.YtdlephffcbkalaaRow
import Derived.Test.YtdlephffcbkalaaEnc
import Derived.Test.YtdlephffcbkalaaShelf
import Derived.Lib.RowBridge
namespace Go.Proofs.Ytdlephffcbkalaa
open Go.RowKit
set_option linter.unusedVariables false

theorem srt_nil : srt [] = [] := by simp [srt]
/-- What slices.Sort asks. -/
theorem own_sort {w : World} {base g cap m : Nat} {l : List (List UInt8)} (h : OwnS w base (.slice (some ⟨g, 0, none⟩) m cap) l) : Sort.Holds encStr w g 0 l.toArray ∧ g < w.heap.size ∧ base ≤ g ∧ m = l.length ∧ l.length ≤ cap := by
  rcases h.2 with ⟨e, _⟩ | ⟨g', cap', cur, e, hg, hh, hn, hm, hs, ht⟩
  · cases e
  · injection e with e1 e2 e3
    injection e1 with e1
    injection e1 with e1
    subst e1 e2 e3
    refine ⟨fun j hj => ?_, (Array.getElem?_eq_some_iff.1 hh).1, hg, rfl, hn⟩
    have hj' : j < l.length := by simpa using hj
    refine ⟨?_, free_in hh _⟩
    rw [Nat.zero_add, cell_in hh]
    have e : cur.toList[j]? = (l.map fun s => Value.string (bs s))[j]? := by
      rw [← ht, List.getElem?_take, if_pos (by omega)]
    rw [← Array.getElem?_toList, e]
    simp [hj', bs, getElem!_pos]
/-- The cells put anew. -/
theorem own_put {w : World} {base g cap m : Nat} {l l' : List (List UInt8)} (h : OwnS w base (.slice (some ⟨g, 0, none⟩) m cap) l) (hl : l'.length = l.length) (n : Nat) (os : Array Obj) :
    OwnS (Sort.grow (Sort.putRow encStr (Sort.ahead w n) g 0 l'.toArray) os) base (.slice (some ⟨g, 0, none⟩) m cap) l' ∧ Below base w (Sort.grow (Sort.putRow encStr (Sort.ahead w n) g 0 l'.toArray) os) := by
  rcases h.2 with ⟨e, _⟩ | ⟨g', cap', cur, e, hg, hh, hn, hm, hs, ht⟩
  · cases e
  · injection e with e1 e2 e3
    injection e1 with e1
    injection e1 with e1
    subst e1 e2 e3
    have hlt : g < w.heap.size := (Array.getElem?_eq_some_iff.1 hh).1
    have hblk : (Sort.grow (Sort.putRow encStr (Sort.ahead w n) g 0 l'.toArray) os).heap[g]? = some (.cells (Sort.putCells encStr 0 l'.toArray cur) 9 (0, 0)) := by
      rw [Sort.heap_grow_old _ _ (by simpa using hlt)]
      simp [Sort.putRow, Sort.mapBlock, Array.getElem?_modify, hh, Sort.onCells]
    refine ⟨⟨by simp, .inr ⟨g, cap, _, by rw [hl], hg, hblk, by rw [hl]; exact hn, hm, by simp [Sort.putCells, hs], ?_⟩⟩, ?_⟩
    · rw [Nat.mul_one]
      apply List.ext_getElem?
      intro j
      rw [List.getElem?_take]
      by_cases hj : j < l'.length
      · have hjc : j < cur.size := by omega
        simp [hj, Sort.putCells, hjc, bs]
      · simp [hj]
    · refine ⟨rfl, rfl, rfl, by simp, fun k hk => ?_⟩
      have hkw : k < w.heap.size := by omega
      rw [Sort.heap_grow_old _ _ (by simpa using hkw)]
      simp only [Sort.putRow, Sort.mapBlock, Sort.ahead, Array.getElem?_modify]
      rw [if_neg (by omega)]
theorem sort_any {w : World} {base : Nat} {v : Value} {l : List (List UInt8)} (h : OwnS w base v l) (hl : l.length ≤ 5000000000000) : Calls Try.prog 29 #[v] w fun e w' => e = .returned (.tuple #[]) ∧ OwnS w' base v (srt l) ∧ Below base w w' := by
  rcases h.2 with ⟨rfl, h0⟩ | ⟨g, cap, cur, rfl, hg, hh, hn, hm, hs, ht⟩
  · obtain rfl : l = [] := List.length_eq_zero_iff.1 h0
    refine (Try.slices_Sort_string_none none 0 w).mono ?_
    rintro e w' ⟨rfl, rfl⟩
    exact ⟨rfl, by rw [srt_nil]; exact h, Below.refl _ _⟩
  · obtain ⟨h1, h2, h3, h4, h5⟩ := own_sort h
    refine (Try.slices_Sort_string g 0 cap l w h1 h2 (by omega)).mono ?_
    rintro e w' ⟨rfl, n, os, rfl⟩
    exact ⟨rfl, own_put h (l' := srt l) (srt_len l) n os⟩
/-- slices.Compact of them: only how many there are then is told. -/
theorem compact_any {w : World} {base : Nat} {v : Value} {l : List (List UInt8)} (h : OwnS w base v l) (hl : l.length ≤ 5000000000000) : Calls Try.prog 28 #[v] w fun e w' => (∃ A c, e = .returned (.slice A (Lib.compact l).length c)) ∧ Below base w w' := by
  rcases h.2 with ⟨rfl, h0⟩ | ⟨g, cap, cur, rfl, hg, hh, hn, hm, hs, ht⟩
  · obtain rfl : l = [] := List.length_eq_zero_iff.1 h0
    refine (Try.slices_Compact_string_empty none 0 w).mono ?_
    rintro e w' ⟨rfl, rfl⟩
    exact ⟨⟨none, 0, rfl⟩, Below.refl _ _⟩
  · obtain ⟨h1, h2, h3, h4, h5⟩ := own_sort h
    refine (Try.slices_Compact_string g 0 cap l w h1 (by omega) h5).mono ?_
    rintro e w' ⟨rfl, n, rfl⟩
    refine ⟨⟨_, _, rfl⟩, ?_⟩
    have hle : (Lib.compact l).length ≤ l.length := Lib.compact_length_le l
    have := (own_put h (l' := Lib.compact l ++ List.replicate (l.length - (Lib.compact l).length) []) (by simp; omega) n #[]).2
    rw [Sort.grow_empty] at this
    exact this
def NamesP (w : World) (l : List Rw) (e : Ending) (w' : World) : Prop := ∃ v, e = .returned v ∧ OwnS w' w.heap.size v (srt (nms l)) ∧ Below w.heap.size w w'
theorem nms_take {l : List Rw} {k : Nat} {r : Rw} (h : l[k]? = some r) : nms (l.take (k + 1)) = nms (l.take k) ++ if r.1 = [] then [] else [r.1] := by
  obtain ⟨hk, rfl⟩ := List.getElem?_eq_some_iff.1 h
  rw [List.take_succ_eq_append_getElem hk, nms_snoc]
set_option maxRecDepth 20000 in
set_option maxHeartbeats 1000000 in
theorem names_any {w : World} {B n c : Nat} {A : Option Addr} {l : List Rw} (h : Rws w B A n c l) (hB : B ≤ w.heap.size) (hn : n ≤ 5000000000000) : Calls Try.prog 20 #[.slice A n c] w (NamesP w l) := by
  have H := Lib.hid h
  have HL := Lib.hid h.len
  have hlim := h.lim
  have hcap := h.cap
  unfold maxLen at hlim
  have HT : ∀ k, Hid ((nms (l.take k)).length ≤ k) := fun k => by
    show _ ≤ _
    refine Nat.le_trans (nms_len _) ?_
    rw [List.length_take]
    omega
  clear h
  go_enter Try.func20, Try.ntmps20
  go_wp2_with fail
  go_loopw [3, 8] (fun u i wr => ∃ k : Nat, ∃ v : Value, k ≤ n ∧ i = .int .i64 k ∧ u = v ∧ Hid (OwnS wr w.heap.size v (nms (l.take k))) ∧ Hid (Below w.heap.size w wr)) (fun _ i _ => n - (intOf i).toNat)
  case atStart => exact ⟨0, _, Nat.zero_le _, rfl, rfl, OwnS.nil_ _ _, Below.refl _ _⟩
  case round =>
    obtain ⟨k, v, hk, rfl, hu, HO, HB⟩ := hrel
    obtain rfl := hu.symm
    by_cases hlt : k < n
    · obtain ⟨b, off, r, rfl, hb, hr, hc0, hc1⟩ := (H.out.below (HB.out.mono hB)).get hlt
      have HS := Lib.hid (nms_take hr)
      obtain ⟨a, x⟩ := r
      have HB2 : Hid (Below w.heap.size w (wr.alloc (Obj.cells #[.string (bs a), .int .i64 x] 23))) := HB.out.alloc HB.out.size _
      have HO2 : Hid (OwnS (wr.alloc (Obj.cells #[.string (bs a), .int .i64 x] 23)) w.heap.size v (nms (l.take k))) := HO.out.below (box_below wr _)
      dsimp only at hc0 hc1 HS
      clear hr
      by_cases ha : a = []
      · subst ha
        have h0 := nil_yes
        have h0' := nil_yes'
        have HO3 : Hid (OwnS (wr.alloc (Obj.cells #[.string (bs []), .int .i64 x] 23)) w.heap.size v (nms (l.take (k + 1)))) := by
          show OwnS _ _ _ _
          rw [HS.out, if_pos rfl, List.append_nil]
          exact HO2.out
        go_wp2_with fail
        go_roundw
        case rel => exact ⟨k + 1, v, by omega, by go_num, rfl, HO3, HB2⟩
        case measure => simp [intOf]; omega
      · have h0 := nil_no ha
        have h0' := nil_no' ha
        obtain ⟨v', w', hr, ho, hb'⟩ := appS_run a HO2.out (by have := (HT k).out; omega) HB2.out.size
        have hz : (wr.alloc (Obj.cells #[.string (bs a), .int .i64 x] 23)).heap.size = wr.heap.size + 1 := by simp
        rw [hz] at hr
        have HO3 : Hid (OwnS w' w.heap.size v' (nms (l.take (k + 1)))) := by
          show OwnS _ _ _ _
          rw [HS.out, if_neg ha]
          exact ho
        have HB3 := Lib.hid (HB2.out.trans hb')
        have HR := Lib.hid hr
        clear hr ho hb' ha hz
        go_wp2_with (at_builtin; refine Lib.wpList_append_run _ rfl _ _ _ _ rfl _ _ rfl rfl _ _ HR.out ?_)
        go_roundw
        case rel => exact ⟨k + 1, v', by omega, by go_num, rfl, HO3, HB3⟩
        case measure => simp [intOf]; omega
    · obtain rfl : k = n := by omega
      have HS := Lib.hid (sort_any HO.out (by have := (HT k).out; omega))
      have HLT : Hid (l.take k = l) := List.take_of_length_le (by rw [HL.out]; omega)
      go_wp2_with fail
      refine HS.out.mono ?_
      rintro e w1 ⟨rfl, ho, hb1⟩
      rw [HLT.out] at ho
      have HO1 := Lib.hid ho
      have HB1 := Lib.hid (HB.out.trans hb1)
      clear ho hb1 HS
      go_wp2_with fail
      go_ret
      exact ⟨v, rfl, HO1.out, HB1.out⟩
end Go.Proofs.Ytdlephffcbkalaa
