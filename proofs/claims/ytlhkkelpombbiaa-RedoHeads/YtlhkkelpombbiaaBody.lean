/- redo.places, inBody, fromBody, walked. -/
import Derived.Test.YtlhkkelpombbiaaSettle
namespace Go.Proofs.Ytlhkkelpombbiaa
open Go.RowKit
set_option linter.unusedVariables false

theorem map_range {ws : List Wr} {n : Nat} (h : ws.length = n) : (List.range n).map (fun j => (ws[j]?.getD (0, [])).1) = ws.map (·.1) := by
  subst h
  apply List.ext_getElem
  · simp
  · intro i h1 h2
    have : i < ws.length := by simpa using h1
    simp [this]
/-- A row of numbers of one's own. -/
def OwnI (w : World) (n : Nat) (l : List Int) (e : Ending) (w' : World) : Prop :=
  ∃ g, e = .returned (.slice (some ⟨g, 0, none⟩) n n) ∧ Ints w' (IM g) (some ⟨g, 0, none⟩) n n l ∧ w.heap.size ≤ g ∧ g < w'.heap.size ∧ Below w.heap.size w w'
set_option maxRecDepth 20000 in
set_option maxHeartbeats 1000000 in
theorem places_any {w : World} {M : Nat → Prop} {A : Option Addr} {n c : Nat} {ws : List Wr} (hW : Wrs w M A n c ws) (hM : ∀ b, M b → b < w.heap.size) (hn : n * 8 ≤ 140737488355328) :
    Calls Try.prog 40 #[.slice A n c] w (OwnI w n (ws.map (·.1))) := by
  have HW := Lib.hid hW
  have HM := Lib.hid hM
  have hlim := hW.lim
  have hcap := hW.cap
  unfold maxLen at hlim
  have HR := Lib.hid (map_range hW.len)
  clear hW hM
  have hmk := makeI n hn w
  go_enter Try.func40, Try.ntmps40
  go_wp2_with fail
  clear hmk
  go_loopw [11] (fun i wr => ∃ k : Nat, k ≤ n ∧ i = .int .i64 k ∧ Hid (Fill wr w.heap.size n (fun j => (ws[j]?.getD (0, [])).1) k) ∧ Hid (Below w.heap.size w wr)) (fun i _ => n - (intOf i).toNat)
  case atStart => exact ⟨0, Nat.zero_le _, rfl, fill_new _ _ _, (Below.refl _ _).alloc (Nat.le_refl _) _⟩
  case round =>
    obtain ⟨k, hk, rfl, HF, HB⟩ := hrel
    by_cases hlt : k < n
    · obtain ⟨x, hx⟩ : ∃ x, ws[k]? = some x := ⟨_, List.getElem?_eq_getElem (by rw [HW.out.len]; exact hlt)⟩
      obtain ⟨b, off, rfl, hb, hc0, A', n', c', hc1, hB⟩ := (HW.out.keep (w' := wr) fun b hb => HB.out.block b (HM.out b hb)).get hx
      have HX := Lib.hid hx
      obtain ⟨⟨v0, hv0⟩, hfr0⟩ := HF.out.cell hlt
      have hgl := HF.out.lt
      have hsw := HB.out.size
      obtain ⟨y, l⟩ := x
      simp only at hc0 hB
      clear hx hB
      generalize hG : w.heap.size = G at *
      have HG := Lib.hid hG
      clear hG
      have hne : wr.heap.size ≠ G := by omega
      go_wp2_with fail
      go_roundw
      case rel =>
        have hz : (wr.setCell ⟨G, k, none⟩ (.int .i64 y)).heap.size = wr.heap.size := by simp
        refine ⟨k + 1, by omega, by go_num, (HF.out.step hlt (by rw [HX.out]; rfl)).keep (Below.heap_alloc _ _ _ (by rw [hz]; exact hgl)), (HB.out.setCell (p := ⟨G, k, none⟩) (Nat.le_refl _) _).alloc (by rw [hz]; exact hsw) _⟩
      case measure => simp [intOf]; omega
    · obtain rfl : k = n := by omega
      go_wp2_with fail
      go_ret
      refine ⟨_, rfl, ?_, Nat.le_refl _, HF.out.lt, HB.out⟩
      rw [← HR.out]
      exact HF.out.ints (by unfold maxLen; omega)
/-- The row of n writes that is filled: the first k of ws are laid; their bytes lie in blocks that M knows. -/
def FillW (w : World) (g n : Nat) (M : Nat → Prop) (ws : List Wr) (k : Nat) : Prop :=
  ∃ C, w.heap[g]? = some (.cells C 56 (0, 0)) ∧ C.size = n * 2 ∧ ∀ j x, j < k → ws[j]? = some x → C[j * 2]? = some (.int .i64 x.1) ∧ ∃ A' n' c', C[j * 2 + 1]? = some (.slice A' n' c') ∧ Bts w M A' n' c' x.2
def zw (n : Nat) : Array Value := madeCells #[.int .i64 0, .slice none 0 0] (n * 2)
theorem makeW (n : Nat) (hn : n * 32 ≤ 140737488355328) (w : World) : (Instr.makeSlice 43 (.int .i64 n) (.int .i64 n)).run Try.prog w = .ok (.slice (some ⟨w.heap.size, 0, none⟩) n n) (w.alloc (.cells (zw n) 56)) := by
  have h : (Try.prog.info? 56).map (fun i => (i.zero, i.size, i.bytes)) = some (some (.agg #[.int .i64 0, .slice none 0 0]), 2, 32) := by kernel_rfl
  cases hq : Try.prog.info? 56 with
  | none => simp [hq] at h
  | some i =>
    simp only [hq, Option.map_some, Option.some.injEq, Prod.mk.injEq] at h
    have := run_make (P := Try.prog) w 43 56 i _ Try.underlying43 hq h.1 .i64 .i64 n n (by omega) (by omega) (by rw [h.2.2]; omega) (by omega)
    rw [this, h.2.1]
    rfl
theorem fillW_new (w : World) (n : Nat) (M : Nat → Prop) (ws : List Wr) : FillW (w.alloc (.cells (zw n) 56)) w.heap.size n M ws 0 :=
  ⟨_, heap_alloc_new _ _, size_madeCells _ _, fun j x hj => absurd hj (by omega)⟩
section
variable {w w' : World} {g n k : Nat} {M M' : Nat → Prop} {ws : List Wr}
theorem FillW.cell (h : FillW w g n M ws k) (hk : k < n) : (∃ v, w.cell? ⟨g, k * 2, none⟩ = some v) ∧ (∃ v, w.cell? ⟨g, k * 2 + 1, none⟩ = some v) ∧ w.frozen? ⟨g, k * 2, none⟩ = false ∧ w.frozen? ⟨g, k * 2 + 1, none⟩ = false := by
  obtain ⟨C, hC, hs, _⟩ := h
  exact ⟨⟨_, by rw [cell_of hC, Array.getElem?_eq_getElem (by omega)]⟩, ⟨_, by rw [cell_of hC, Array.getElem?_eq_getElem (by omega)]⟩, frozen_of hC _, frozen_of hC _⟩
theorem FillW.lt (h : FillW w g n M ws k) : g < w.heap.size := by obtain ⟨C, hC, _⟩ := h; exact (Array.getElem?_eq_some_iff.1 hC).1
theorem FillW.keep (h : FillW w g n M ws k) (he : w'.heap[g]? = w.heap[g]?) (hk : ∀ b, M b → w'.heap[b]? = w.heap[b]?) : FillW w' g n M ws k := by
  obtain ⟨C, hC, hs, ha⟩ := h
  refine ⟨C, he.trans hC, hs, fun j x hj hx => ?_⟩
  obtain ⟨h1, A', n', c', h2, h3⟩ := ha j x hj hx
  exact ⟨h1, A', n', c', h2, h3.keep hk⟩
theorem FillW.more (h : FillW w g n M ws k) (hk : ∀ b, M b → M' b) : FillW w g n M' ws k := by
  obtain ⟨C, hC, hs, ha⟩ := h
  refine ⟨C, hC, hs, fun j x hj hx => ?_⟩
  obtain ⟨h1, A', n', c', h2, h3⟩ := ha j x hj hx
  exact ⟨h1, A', n', c', h2, h3.more hk⟩
theorem FillW.step (h : FillW w g n M ws k) (hk : k < n) {x : Wr} (hx : ws[k]? = some x) {A' : Option Addr} {n' c' : Nat} (hb : Bts w M A' n' c' x.2) (hg : ¬ M g) {z : Int} (hz : z = x.1) :
    FillW ((w.setCell ⟨g, k * 2, none⟩ (.int .i64 z)).setCell ⟨g, k * 2 + 1, none⟩ (.slice A' n' c')) g n M ws (k + 1) := by
  obtain ⟨C, hC, hs, ha⟩ := h
  have hkeep : ∀ b, M b → ((w.setCell ⟨g, k * 2, none⟩ (.int .i64 z)).setCell ⟨g, k * 2 + 1, none⟩ (.slice A' n' c')).heap[b]? = w.heap[b]? := fun b hb => by
    have hne : b ≠ g := fun e => hg (e ▸ hb)
    rw [Below.heap_setCell _ _ _ _ hne, Below.heap_setCell _ _ _ _ hne]
  refine ⟨_, heap_setCell_at (heap_setCell_at hC _) _, by simp [hs], fun j y hj hy => ?_⟩
  by_cases e : j = k
  · subst e
    rw [hx] at hy
    cases hy
    subst hz
    refine ⟨?_, A', n', c', ?_, hb.keep hkeep⟩
    · rw [Array.getElem?_setIfInBounds_ne (by omega), Array.getElem?_setIfInBounds_self_of_lt (by omega)]
    · rw [Array.getElem?_setIfInBounds_self_of_lt (by simp; omega)]
  · obtain ⟨h1, A2, n2, c2, h2, h3⟩ := ha j y (by omega) hy
    refine ⟨?_, A2, n2, c2, ?_, h3.keep hkeep⟩
    · rw [Array.getElem?_setIfInBounds_ne (by omega), Array.getElem?_setIfInBounds_ne (by omega)]; exact h1
    · rw [Array.getElem?_setIfInBounds_ne (by omega), Array.getElem?_setIfInBounds_ne (by omega)]; exact h2
theorem FillW.wrs (h : FillW w g n M ws n) (hl : ws.length = n) (hn : n ≤ maxLen) : Wrs w (fun q => M q ∨ q = g) (some ⟨g, 0, none⟩) n n ws := by
  obtain ⟨C, hC, hs, ha⟩ := h
  refine ⟨hl, Nat.le_refl _, hn, fun _ => ⟨g, 0, rfl, .inr rfl, fun j x hj => ?_⟩⟩
  have hlt : j < n := by rw [← hl]; exact (List.getElem?_eq_some_iff.1 hj).1
  obtain ⟨h1, A', n', c', h2, h3⟩ := ha j x hlt hj
  exact ⟨by rw [Nat.zero_add, cell_of hC]; exact h1, A', n', c', by rw [Nat.zero_add, cell_of hC]; exact h2, h3.more fun b hb => .inl hb⟩
end
/-- A row of writes of one's own; their bytes lie in blocks that M knows, or in new ones. -/
def OwnW (w : World) (M : Nat → Prop) (n : Nat) (ws : List Wr) (e : Ending) (w' : World) : Prop :=
  ∃ g, e = .returned (.slice (some ⟨g, 0, none⟩) n n) ∧ Wrs w' (fun q => M q ∨ q = g) (some ⟨g, 0, none⟩) n n ws ∧ w.heap.size ≤ g ∧ g < w'.heap.size ∧ Below w.heap.size w w'
theorem inBody_get {ws : List Wr} {k : Nat} {x : Wr} (h : ws[k]? = some x) : (inBodyL ws)[k]? = some (2 + (k : Int), x.2) := by
  unfold inBodyL
  rw [List.getElem?_mapIdx, h]
  rfl
set_option maxRecDepth 20000 in
set_option maxHeartbeats 1000000 in
theorem inBody_any {w : World} {M : Nat → Prop} {A : Option Addr} {n c : Nat} {ws : List Wr} (hW : Wrs w M A n c ws) (hM : ∀ b, M b → b < w.heap.size) (hn : n ≤ 24) :
    Calls Try.prog 46 #[.slice A n c] w (OwnW w M n (inBodyL ws)) := by
  have HW := Lib.hid hW
  have HM := Lib.hid hM
  have hlim := hW.lim
  have hcap := hW.cap
  unfold maxLen at hlim
  clear hW hM
  have hmk := makeW n (by omega) w
  go_enter Try.func46, Try.ntmps46
  go_wp2_with fail
  clear hmk
  go_loopw [11] (fun i wr => ∃ k : Nat, k ≤ n ∧ i = .int .i64 k ∧ Hid (FillW wr w.heap.size n M (inBodyL ws) k) ∧ Hid (Below w.heap.size w wr)) (fun i _ => n - (intOf i).toNat)
  case atStart => exact ⟨0, Nat.zero_le _, rfl, fillW_new _ _ _ _, (Below.refl _ _).alloc (Nat.le_refl _) _⟩
  case round =>
    obtain ⟨k, hk, rfl, HF, HB⟩ := hrel
    by_cases hlt : k < n
    · obtain ⟨x, hx⟩ : ∃ x, ws[k]? = some x := ⟨_, List.getElem?_eq_getElem (by rw [HW.out.len]; exact hlt)⟩
      obtain ⟨b, off, rfl, hb, hc0, A', n', c', hc1, hB⟩ := (HW.out.keep (w' := wr) fun b hb => HB.out.block b (HM.out b hb)).get hx
      have HX := Lib.hid (inBody_get hx)
      have HBT := Lib.hid hB
      obtain ⟨⟨v0, hv0⟩, ⟨v1, hv1⟩, hfr0, hfr1⟩ := HF.out.cell hlt
      have hgl := HF.out.lt
      have hsw := HB.out.size
      have HNM : Hid (¬ M w.heap.size) := fun hm => by have := HM.out _ hm; omega
      obtain ⟨y, l⟩ := x
      simp only at hc0 hB
      clear hx hB
      generalize hG : w.heap.size = G at *
      have HG := Lib.hid hG
      clear hG
      have hne : wr.heap.size ≠ G := by omega
      go_wp2_with fail
      go_roundw
      case rel =>
        have hz : ((wr.setCell ⟨G, k * 2, none⟩ (.int .i64 (2 + (k : Int)))).setCell ⟨G, k * 2 + 1, none⟩ (.slice A' n' c')).heap.size = wr.heap.size := by simp
        refine ⟨k + 1, by omega, by go_num, (HF.out.step hlt HX.out HBT.out HNM.out rfl).keep (Below.heap_alloc _ _ _ (by rw [hz]; exact hgl)) (fun b hb => Below.heap_alloc _ _ _ (by rw [hz]; have := HM.out b hb; omega)), ((HB.out.setCell (p := ⟨G, k * 2, none⟩) (Nat.le_refl _) _).setCell (p := ⟨G, k * 2 + 1, none⟩) (Nat.le_refl _) _).alloc (by rw [hz]; exact hsw) _⟩
      case measure => simp [intOf]; omega
    · obtain rfl : k = n := by omega
      go_wp2_with fail
      go_ret
      exact ⟨_, rfl, HF.out.wrs (by simp [inBodyL, HW.out.len]) (by unfold maxLen; omega), Nat.le_refl _, HF.out.lt, HB.out⟩
theorem bodyOf_get {s : DS} {ns : List Int} {k : Nat} {x : Int} (h : ns[k]? = some x) : (s.bodyOf ns)[k]? = some (x, s.now[2 + k]?.getD []) := by
  unfold DS.bodyOf
  rw [List.getElem?_mapIdx, h]
  rfl
theorem bodyOf_len (s : DS) (ns : List Int) : (s.bodyOf ns).length = ns.length := by simp [DS.bodyOf]
def MD (a b : Nat) : Nat → Prop := fun q => a < q ∧ q < b
def FromP (w : World) (n : Nat) (ws : List Wr) (e : Ending) (w' : World) : Prop :=
  ∃ g, e = .returned (.tuple #[.slice (some ⟨g, 0, none⟩) n n, .int .i64 0]) ∧ Wrs w' (fun q => w.heap.size ≤ q ∧ q < w'.heap.size) (some ⟨g, 0, none⟩) n n ws ∧ Below w.heap.size w w'
set_option maxRecDepth 20000 in
set_option maxHeartbeats 1000000 in
theorem fromBody_any {w : World} {d : Nat} {O : List Nat} {N : Nat} {s : DS} {M : Nat → Prop} {A : Option Addr} {n c : Nat} {ns : List Int} (h : Drv w d O N s) (hd : s.down = false) (hI : Ints w M A n c ns) (hM : ∀ b, M b → b < w.heap.size) (hn : n ≤ 24) :
    Calls Try.prog 61 #[.pointer (some ⟨d, 0, none⟩), .slice A n c] w (FromP w n (s.bodyOf ns)) := by
  have H := Lib.hid h
  have HDN := Lib.hid hd
  have HI := Lib.hid hI
  have HL := Lib.hid hI.len
  have HM := Lib.hid hM
  have hlim := hI.lim
  have hcap := hI.cap
  unfold maxLen at hlim
  clear h hd hI hM
  have hmk := makeW n (by omega) w
  go_enter Try.func61, Try.ntmps61
  go_wp2_with fail
  clear hmk
  go_loopw [16] (fun i wr => ∃ k : Nat, k ≤ n ∧ i = .int .i64 k ∧ Hid (FillW wr w.heap.size n (MD w.heap.size wr.heap.size) (s.bodyOf ns) k) ∧ Hid (Below w.heap.size w wr)) (fun i _ => n - (intOf i).toNat)
  case atStart => exact ⟨0, Nat.zero_le _, rfl, fillW_new _ _ _ _, (Below.refl _ _).alloc (Nat.le_refl _) _⟩
  case round =>
    obtain ⟨k, hk, rfl, HF, HB⟩ := hrel
    by_cases hlt : k < n
    · obtain ⟨b, off, rfl, hb, hc⟩ := (HI.out.keep (w' := wr) fun b hb => HB.out.block b (HM.out b hb)).cell hlt
      have HX0 : Hid (ns[k]? = some (ns[k]?.getD 0)) := get_of HL.out hlt
      generalize ns[k]?.getD 0 = x at *
      obtain ⟨y, hy, hyl⟩ := H.out.sec (k := 2 + k) (by have := H.out.n64; omega)
      have HX : Hid ((s.bodyOf ns)[k]? = some (x, y)) := by
        show _ = _
        rw [bodyOf_get HX0.out, hy]
        rfl
      have HG := Lib.hid (get_ok (2 + k) (H.out.below HB.out) HDN.out hy)
      have HYL := Lib.hid hyl
      have hgl := HF.out.lt
      have hsw := HB.out.size
      clear hy hyl
      obtain ⟨m, hm⟩ : ∃ m, 2 + k = m := ⟨_, rfl⟩
      rw [hm] at HG
      have hk2 : (2 : Int) + (k : Int) = (m : Int) := by omega
      clear hm
      generalize hGG : w.heap.size = G at *
      have HGG := Lib.hid hGG
      clear hGG
      go_wp2_with fail
      refine HG.out.mono ?_
      rintro e w2 ⟨b2, rfl, hb2, hh2, hbl2⟩
      have HB2 := Lib.hid (HB.out.trans (hbl2.mono hsw))
      have hsz2 := hbl2.size
      have hb2l : b2 < w2.heap.size := (Array.getElem?_eq_some_iff.1 hh2).1
      have HF2 : Hid (FillW w2 G n (MD G w2.heap.size) (s.bodyOf ns) k) :=
        (HF.out.keep (hbl2.block _ hgl) fun q hq => hbl2.block q hq.2).more fun q hq => ⟨hq.1, by have := hq.2; omega⟩
      have HBT : Hid (Bts w2 (MD G w2.heap.size) (some ⟨b2, 0, none⟩) 128 128 y) := (Own.bts ⟨80, hh2⟩ HYL.out (M := IM b2) rfl).more fun q hq => by cases hq; exact ⟨by omega, hb2l⟩
      have HNM : Hid (¬ MD G w2.heap.size G) := fun hm => by have := hm.1; omega
      obtain ⟨⟨v0, hv0⟩, ⟨v1, hv1⟩, hfr0, hfr1⟩ := HF2.out.cell hlt
      clear hh2 hbl2
      go_wp2_with fail
      go_roundw
      case rel =>
        have hz : ((w2.setCell ⟨G, k * 2, none⟩ (.int .i64 x)).setCell ⟨G, k * 2 + 1, none⟩ (.slice (some ⟨b2, 0, none⟩) 128 128)).heap.size = w2.heap.size := by simp
        refine ⟨k + 1, by omega, by go_num, ?_, (HB2.out.setCell (p := ⟨G, k * 2, none⟩) (Nat.le_refl _) _).setCell (p := ⟨G, k * 2 + 1, none⟩) (Nat.le_refl _) _⟩
        show FillW _ _ _ _ _ _
        rw [hz]
        exact HF2.out.step hlt HX.out HBT.out HNM.out rfl
      case measure => simp [intOf]; omega
    · obtain rfl : k = n := by omega
      go_wp2_with fail
      go_ret2
      refine ⟨_, rfl, ?_, HB.out⟩
      refine (HF.out.wrs (by rw [bodyOf_len, HL.out]) (by unfold maxLen; omega)).more fun q hq => ?_
      rcases hq with hq | rfl
      · exact ⟨by have := hq.1; omega, hq.2⟩
      · exact ⟨Nat.le_refl _, HF.out.lt⟩
end Go.Proofs.Ytlhkkelpombbiaa
