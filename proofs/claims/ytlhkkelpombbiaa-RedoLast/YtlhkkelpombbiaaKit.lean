/- For the laws: bytes of one's own, lists of writes made of them, the drive's calls in a row. -/
import Derived.Test.YtlhkkelpombbiaaPut
namespace Go.Proofs.Ytlhkkelpombbiaa
open Go.RowKit
set_option linter.unusedVariables false

/-- A block of bytes of one's own. -/
def Own (w : World) (b : Nat) (l : List UInt8) : Prop := ∃ t, w.heap[b]? = some (.cells (bc l).toArray t (0, 0))
section
variable {w w' : World} {b : Nat} {l : List UInt8} {O : List Nat}
theorem Own.lt (h : Own w b l) : b < w.heap.size := by obtain ⟨t, h⟩ := h; exact (Array.getElem?_eq_some_iff.1 h).1
theorem Own.keep (h : Own w b l) (he : w'.heap[b]? = w.heap[b]?) : Own w' b l := by obtain ⟨t, h⟩ := h; exact ⟨t, he.trans h⟩
theorem Own.chg (h : Own w b l) (hc : Chg O w w') (hb : b ∉ O) : Own w' b l := h.keep (hc.block b h.lt hb)
theorem Own.below (h : Own w b l) (hc : Below w.heap.size w w') : Own w' b l := h.keep (hc.block b h.lt)
theorem Own.cell (h : Own w b l) {j : Nat} {x : UInt8} (hj : l[j]? = some x) : w.cell? ⟨b, j, none⟩ = some (.int .u8 (x.toNat : Int)) := by
  obtain ⟨t, h⟩ := h
  rw [cell_of h, List.getElem?_toArray]
  simp [bc, hj]
theorem Own.frozen (h : Own w b l) (j : Nat) : w.frozen? ⟨b, j, none⟩ = false := by obtain ⟨t, h⟩ := h; exact frozen_of h j
theorem Own.range (h : Own w b l) : w.rangeAt b 0 (bc l) := fun j v hj => by
  obtain ⟨t, h⟩ := h
  rw [cell_of h, List.getElem?_toArray, Nat.zero_add]; exact hj
theorem Own.bts (h : Own w b l) (hl : l.length = 128) {M : Nat → Prop} (hM : M b) : Bts w M (some ⟨b, 0, none⟩) 128 128 l :=
  ⟨hl, Nat.le_refl _, by unfold maxLen; omega, fun _ => ⟨b, 0, rfl, hM, h.range⟩⟩
theorem Own.set (h : Own w b l) {j : Nat} (x : UInt8) (hj : j < l.length) : Own (w.setCell ⟨b, j, none⟩ (.int .u8 (x.toNat : Int))) b (l.set j x) := by
  obtain ⟨t, h⟩ := h
  refine ⟨t, ?_⟩
  rw [heap_setCell_at h]
  congr 2
  simp [bc, List.map_set]
theorem Own.str (h : Own w b l) (hl : l.length = 128) : (convert 23 9 (.slice (some ⟨b, 0, none⟩) 128 128)).run Try.prog w = .ok (.string ⟨l.toArray⟩) w := by
  have := run_convert_bytes_back (P := Try.prog) w 23 9 5 ⟨b, 0, none⟩ 128 l Try.underlying23 Try.underlying5 Try.underlying9 (fun j hj => by
    rw [Addr.add_mid]
    have := h.range j _ (bc_get hj)
    rw [this]
    simp [hj])
  rw [hl] at this
  exact this
end
theorem made5 : madeCells #[.int .u8 0] 128 = (bc zeros).toArray := by kernel_rfl
/-- make([]byte, 128). -/
theorem make128 (w : World) : ∃ b w1, (Instr.makeSlice 23 (.int .i64 128) (.int .i64 128)).run Try.prog w = .ok (.slice (some ⟨b, 0, none⟩) 128 128) w1 ∧ Own w1 b zeros ∧ b = w.heap.size ∧ Below w.heap.size w w1 := by
  have h : (Try.prog.info? 5).map (fun i => (i.zero, i.size, i.bytes)) = some (some (.int .u8 0), 1, 1) := by kernel_rfl
  cases hq : Try.prog.info? 5 with
  | none => simp [hq] at h
  | some i =>
    simp only [hq, Option.map_some, Option.some.injEq, Prod.mk.injEq] at h
    have := run_makeSlice (P := Try.prog) w 23 5 i _ Try.underlying23 hq h.1 .i64 .i64 128 128 (by omega) (by omega) (by rw [h.2.1]; omega) (by rw [h.2.2]; omega) (by omega)
    rw [h.2.1] at this
    refine ⟨_, _, this, ⟨5, ?_⟩, rfl, (Below.refl _ _).alloc (Nat.le_refl _) _⟩
    rw [heap_alloc_new]
    show some (Obj.cells (madeCells #[.int .u8 0] 128) 5 (0, 0)) = _
    rw [made5]
theorem make128_all (w : World) : (Instr.makeSlice 23 (.int .i64 128) (.int .i64 128)).run Try.prog w = .ok (.slice (some ⟨w.heap.size, 0, none⟩) 128 128) (w.alloc (.cells (bc zeros).toArray 5)) := by
  have h : (Try.prog.info? 5).map (fun i => (i.zero, i.size, i.bytes)) = some (some (.int .u8 0), 1, 1) := by kernel_rfl
  cases hq : Try.prog.info? 5 with
  | none => simp [hq] at h
  | some i =>
    simp only [hq, Option.map_some, Option.some.injEq, Prod.mk.injEq] at h
    have := run_makeSlice (P := Try.prog) w 23 5 i _ Try.underlying23 hq h.1 .i64 .i64 128 128 (by omega) (by omega) (by rw [h.2.1]; omega) (by rw [h.2.2]; omega) (by omega)
    rw [h.2.1] at this
    rw [this, ← made5]
    rfl
theorem made_two (w : World) : Own ((w.alloc (.cells (bc zeros).toArray 5)).alloc (.cells (bc zeros).toArray 5)).drew w.heap.size zeros ∧ Own ((w.alloc (.cells (bc zeros).toArray 5)).alloc (.cells (bc zeros).toArray 5)).drew (w.heap.size + 1) zeros ∧
    Below w.heap.size w ((w.alloc (.cells (bc zeros).toArray 5)).alloc (.cells (bc zeros).toArray 5)).drew := by
  have hs1 : (w.alloc (.cells (bc zeros).toArray 5)).heap.size = w.heap.size + 1 := by simp
  refine ⟨⟨5, ?_⟩, ⟨5, ?_⟩, (((Below.refl _ _).alloc (Nat.le_refl _) _).alloc (by rw [hs1]; omega) _).drew⟩
  · show ((w.alloc (.cells (bc zeros).toArray 5)).alloc (.cells (bc zeros).toArray 5)).heap[w.heap.size]? = _
    rw [Below.heap_alloc _ _ _ (by rw [hs1]; omega)]
    exact heap_alloc_new _ _
  · have := heap_alloc_new (w.alloc (.cells (bc zeros).toArray 5)) (.cells (bc zeros).toArray 5)
    rw [hs1] at this
    exact this
def WM (b h : Nat) : Nat → Prop := fun q => q = b ∨ q = h
theorem wrs_one {w : World} {b : Nat} {l : List UInt8} (n : Int) (hb : Own w b l) (hl : l.length = 128) :
    Wrs (w.alloc (.cells #[.int .i64 n, .slice (some ⟨b, 0, none⟩) 128 128] 56)) (WM b w.heap.size) (some ⟨w.heap.size, 0, none⟩) 1 1 [(n, l)] := by
  have hnew : (w.alloc (.cells #[.int .i64 n, .slice (some ⟨b, 0, none⟩) 128 128] 56)).heap[w.heap.size]? = some (.cells #[.int .i64 n, .slice (some ⟨b, 0, none⟩) 128 128] 56 (0, 0)) := heap_alloc_new _ _
  refine ⟨rfl, Nat.le_refl _, by unfold maxLen; omega, fun _ => ⟨_, 0, rfl, .inr rfl, fun j x hj => ?_⟩⟩
  match j, hj with
  | 0, hj =>
    simp only [List.getElem?_cons_zero, Option.some.injEq] at hj
    subst hj
    exact ⟨cell_of hnew 0, _, _, _, cell_of hnew 1, (hb.keep (Below.heap_alloc _ _ _ hb.lt)).bts hl (.inl rfl)⟩
  | j + 1, hj => simp at hj
theorem wrs_two {w : World} {b : Nat} {l : List UInt8} (n m : Int) (hb : Own w b l) (hl : l.length = 128) :
    Wrs (w.alloc (.cells #[.int .i64 n, .slice (some ⟨b, 0, none⟩) 128 128, .int .i64 m, .slice (some ⟨b, 0, none⟩) 128 128] 56)) (WM b w.heap.size) (some ⟨w.heap.size, 0, none⟩) 2 2 [(n, l), (m, l)] := by
  have hnew : (w.alloc (.cells #[.int .i64 n, .slice (some ⟨b, 0, none⟩) 128 128, .int .i64 m, .slice (some ⟨b, 0, none⟩) 128 128] 56)).heap[w.heap.size]? = some (.cells #[.int .i64 n, .slice (some ⟨b, 0, none⟩) 128 128, .int .i64 m, .slice (some ⟨b, 0, none⟩) 128 128] 56 (0, 0)) := heap_alloc_new _ _
  refine ⟨rfl, Nat.le_refl _, by unfold maxLen; omega, fun _ => ⟨_, 0, rfl, .inr rfl, fun j x hj => ?_⟩⟩
  match j, hj with
  | 0, hj =>
    simp only [List.getElem?_cons_zero, Option.some.injEq] at hj
    subst hj
    exact ⟨cell_of hnew 0, _, _, _, cell_of hnew 1, (hb.keep (Below.heap_alloc _ _ _ hb.lt)).bts hl (.inl rfl)⟩
  | 1, hj =>
    simp only [List.getElem?_cons_succ, List.getElem?_cons_zero, Option.some.injEq] at hj
    subst hj
    exact ⟨cell_of hnew 2, _, _, _, cell_of hnew 3, (hb.keep (Below.heap_alloc _ _ _ hb.lt)).bts hl (.inl rfl)⟩
  | j + 2, hj => simp at hj
/-- A drive of one's own: all of it was made behind w0. -/
structure Sit (w0 w : World) (d : Nat) (O : List Nat) (N : Nat) (s : DS) : Prop where
  drv : Drv w d O N s
  fresh : ∀ b ∈ O, w0.heap.size ≤ b
  bel : Below w0.heap.size w0 w
section
variable {w0 w w' : World} {d N : Nat} {O : List Nat} {s s' : DS}
theorem Sit.did (h : Sit w0 w d O N s) (k : Did w d O N s' w') : ∃ O', Sit w0 w' d O' N s' ∧ Chg O w w' ∧ ∀ b ∈ O', b ∈ O ∨ w.heap.size ≤ b := by
  obtain ⟨O', h1, h2, h3⟩ := k
  refine ⟨O', ⟨h1, fun b hb => ?_, h.bel.trans (h2.below h.bel.size h.fresh)⟩, h2, h3⟩
  rcases h3 b hb with g | g
  · exact h.fresh b g
  · have := h.bel.size; omega
theorem Sit.below (h : Sit w0 w d O N s) (hb : Below w.heap.size w w') : Sit w0 w' d O N s :=
  ⟨h.drv.keep fun b hb' => hb.block b (h.drv.lt b hb'), h.fresh, h.bel.trans (hb.mono h.bel.size)⟩
theorem Sit.set (h : Sit w0 w d O N s) {b j : Nat} (u : Value) (hb : b ∉ O) (hw : w0.heap.size ≤ b) : Sit w0 (w.setCell ⟨b, j, none⟩ u) d O N s :=
  ⟨h.drv.keep fun q hq => Below.heap_setCell _ _ _ _ (fun e => hb (by have e' : q = b := e; rw [← e']; exact hq)), h.fresh, h.bel.setCell hw u⟩
theorem Drv.down_ (h : Drv w d O N s) : s.Ok N := by
  obtain ⟨bn, cn, bl, cl, vs, rfl, h⟩ := h
  exact h.ok
end
theorem fuseD {w : World} {d : Nat} {O : List Nat} {N : Nat} {s : DS} (n : Int) (h : Drv w d O N s) (h1 : -9223372036854775808 ≤ n) (h2 : n ≤ 9223372036854775807) :
    Calls Try.prog 19 #[.pointer (some ⟨d, 0, none⟩), .int .i64 n] w fun e w' => e = .returned (.tuple #[]) ∧ Did w d O N (s.fuse n) w' := by
  obtain ⟨bn, cn, bl, cl, vs, rfl, h⟩ := h
  refine (fuse_any n h.st).mono ?_
  rintro e w' ⟨rfl, hs, hc⟩
  exact ⟨rfl, _, ⟨bn, cn, bl, cl, vs, rfl, h.turn hc hs rfl rfl rfl (h.ok.fuse_ h1 h2)⟩, hc.mono (fun b hb => .inl (by simp at hb; simp [owns, hb])), fun b hb => .inl hb⟩
theorem sectorsD {w : World} {d : Nat} {O : List Nat} {N : Nat} {s : DS} (h : Drv w d O N s) :
    Calls Try.prog 59 #[.pointer (some ⟨d, 0, none⟩)] w fun e w' => e = .returned (.int .i64 N) ∧ w = w' := by
  obtain ⟨bn, cn, bl, cl, vs, rfl, h⟩ := h
  exact sectors_any h.st
theorem put_free {s : DS} {N : Nat} {ws : List Wr} (hf : s.fused = false) (hd : s.down = false) (h : fitE N ws = 0) : s.put N ws = (0, ws.foldl (fun s w => s.put1 w.1.toNat w.2) s) := by
  unfold DS.put
  rw [hd, if_neg (by simp), if_pos h]
  clear h hd
  induction ws generalizing s with
  | nil => rfl
  | cons x r ih =>
    rw [DS.putGo, if_pos (by simp [DS.pow, hf])]
    have : s.spend = s := by simp [DS.spend, hf]
    rw [this, ih (by exact hf)]
    rfl
theorem flush_free {s : DS} (hf : s.fused = false) (hd : s.down = false) : s.flush = (0, { s with lasting := lay s.lasting s.since, since := [] }) := by
  have h1 : s.spend = s := by simp [DS.spend, hf]
  have h2 : s.pow = true := by simp [DS.pow, hf]
  unfold DS.flush
  rw [h1, h2, if_neg (by simp [hd]), if_pos rfl]
theorem fit_one {N : Nat} {n : Int} {l : List UInt8} (h0 : 0 ≤ n) (h1 : n < N) (hl : l.length = 128) : fitE N [(n, l)] = 0 := by
  simp [fitE, inR, h0, h1, hl]
theorem fit_two {N : Nat} {n m : Int} {l : List UInt8} (h0 : 0 ≤ n) (h1 : n < N) (g0 : 0 ≤ m) (g1 : m < N) (hl : l.length = 128) : fitE N [(n, l), (m, l)] = 0 := by
  simp [fitE, inR, h0, h1, g0, g1, hl]
/-- What a call of a drive of one's own has done. -/
def PS (w0 w : World) (d : Nat) (O : List Nat) (N : Nat) (s' : DS) (w' : World) : Prop := ∃ O', Sit w0 w' d O' N s' ∧ Chg O w w' ∧ ∀ b ∈ O', b ∈ O ∨ w.heap.size ≤ b
theorem not_after {O O' : List Nat} {w : World} {b : Nat} (h : ∀ q ∈ O', q ∈ O ∨ w.heap.size ≤ q) (hb : b ∉ O) (hl : b < w.heap.size) : b ∉ O' := fun e => by
  rcases h b e with g | g
  · exact hb g
  · omega
section
variable {w0 w w' : World} {d N b : Nat} {O : List Nat} {s : DS} {l : List UInt8}
theorem putS1 (n : Int) (h : Sit w0 w d O N s) (ho : Own w b l) (hb : b ∉ O) (hl : l.length = 128) (hlen : s.since.length ≤ 1000000) :
    Calls Try.prog 36 #[.pointer (some ⟨d, 0, none⟩), .slice (some ⟨w.heap.size, 0, none⟩) 1 1] (w.alloc (.cells #[.int .i64 n, .slice (some ⟨b, 0, none⟩) 128 128] 56)) fun e w' => e = .returned (.int .i64 (s.put N [(n, l)]).1) ∧ PS w0 w d O N (s.put N [(n, l)]).2 w' := by
  have hs : (w.alloc (.cells #[.int .i64 n, .slice (some ⟨b, 0, none⟩) 128 128] 56)).heap.size = w.heap.size + 1 := by simp
  have hbl := (Below.refl w.heap.size w).alloc (Nat.le_refl _) (.cells #[.int .i64 n, .slice (some ⟨b, 0, none⟩) 128 128] 56)
  refine (put_any (h.below hbl).drv (wrs_one n ho hl) (fun q hq => ?_) (by omega)).mono ?_
  · rcases hq with rfl | rfl
    · exact ⟨by rw [hs]; have := ho.lt; omega, hb⟩
    · exact ⟨by rw [hs]; omega, fun e => by have := h.drv.lt _ e; omega⟩
  · rintro e w' ⟨rfl, hd⟩
    obtain ⟨O', h1, h2, h3⟩ := (h.below hbl).did hd
    exact ⟨rfl, O', h1, (Chg.of_below hbl).tr h2, fun q hq => by rcases h3 q hq with g | g; exact .inl g; right; rw [hs] at g; omega⟩
theorem putS2 (n m : Int) (h : Sit w0 w d O N s) (ho : Own w b l) (hb : b ∉ O) (hl : l.length = 128) (hlen : s.since.length ≤ 1000000) :
    Calls Try.prog 36 #[.pointer (some ⟨d, 0, none⟩), .slice (some ⟨w.heap.size, 0, none⟩) 2 2] (w.alloc (.cells #[.int .i64 n, .slice (some ⟨b, 0, none⟩) 128 128, .int .i64 m, .slice (some ⟨b, 0, none⟩) 128 128] 56)) fun e w' => e = .returned (.int .i64 (s.put N [(n, l), (m, l)]).1) ∧ PS w0 w d O N (s.put N [(n, l), (m, l)]).2 w' := by
  have hs : (w.alloc (.cells #[.int .i64 n, .slice (some ⟨b, 0, none⟩) 128 128, .int .i64 m, .slice (some ⟨b, 0, none⟩) 128 128] 56)).heap.size = w.heap.size + 1 := by simp
  have hbl := (Below.refl w.heap.size w).alloc (Nat.le_refl _) (.cells #[.int .i64 n, .slice (some ⟨b, 0, none⟩) 128 128, .int .i64 m, .slice (some ⟨b, 0, none⟩) 128 128] 56)
  refine (put_any (h.below hbl).drv (wrs_two n m ho hl) (fun q hq => ?_) (by omega)).mono ?_
  · rcases hq with rfl | rfl
    · exact ⟨by rw [hs]; have := ho.lt; omega, hb⟩
    · exact ⟨by rw [hs]; omega, fun e => by have := h.drv.lt _ e; omega⟩
  · rintro e w' ⟨rfl, hd⟩
    obtain ⟨O', h1, h2, h3⟩ := (h.below hbl).did hd
    exact ⟨rfl, O', h1, (Chg.of_below hbl).tr h2, fun q hq => by rcases h3 q hq with g | g; exact .inl g; right; rw [hs] at g; omega⟩
theorem flushS (h : Sit w0 w d O N s) : Calls Try.prog 22 #[.pointer (some ⟨d, 0, none⟩)] w fun e w' => e = .returned (.int .i64 s.flush.1) ∧ PS w0 w d O N s.flush.2 w' := by
  refine (flush_any h.drv).mono ?_
  rintro e w' ⟨rfl, hd⟩
  exact ⟨rfl, h.did hd⟩
theorem fuseS (n : Int) (h : Sit w0 w d O N s) (h1 : -9223372036854775808 ≤ n) (h2 : n ≤ 9223372036854775807) :
    Calls Try.prog 19 #[.pointer (some ⟨d, 0, none⟩), .int .i64 n] w fun e w' => e = .returned (.tuple #[]) ∧ PS w0 w d O N (s.fuse n) w' := by
  refine (fuseD n h.drv h1 h2).mono ?_
  rintro e w' ⟨rfl, hd⟩
  exact ⟨rfl, h.did hd⟩
theorem restartS {M : Nat → Prop} {A : Option Addr} {n c : Nat} {keep : List Int} (h : Sit w0 w d O N s) (hI : Ints w M A n c keep) (hM : ∀ b, M b → b < w.heap.size ∧ b ∉ O) :
    Calls Try.prog 23 #[.pointer (some ⟨d, 0, none⟩), .slice A n c] w fun e w' => e = .returned (.tuple #[]) ∧ PS w0 w d O N (s.restart keep) w' := by
  refine (restart_any h.drv hI hM).mono ?_
  rintro e w' ⟨rfl, hd⟩
  exact ⟨rfl, h.did hd⟩
/-- What Get hands out is one's own. -/
def GS (w0 w : World) (d : Nat) (O : List Nat) (N : Nat) (s : DS) (x : List UInt8) (b : Nat) (w' : World) : Prop := Sit w0 w' d O N s ∧ Own w' b x ∧ b ∉ O ∧ w.heap.size ≤ b ∧ Below w.heap.size w w'
def GP (w0 w : World) (d : Nat) (O : List Nat) (N : Nat) (s : DS) (x : List UInt8) (e : Ending) (w' : World) : Prop := ∃ b, e = .returned (.tuple #[.slice (some ⟨b, 0, none⟩) 128 128, .int .i64 0]) ∧ GS w0 w d O N s x b w'
theorem getS (k : Nat) (h : Sit w0 w d O N s) (hd : s.down = false) {x : List UInt8} (hx : s.now[k]? = some x) :
    Calls Try.prog 14 #[.pointer (some ⟨d, 0, none⟩), .int .i64 k] w (GP w0 w d O N s x) := by
  refine (get_ok k h.drv hd hx).mono ?_
  rintro e w' ⟨b, rfl, h1, h2, h3⟩
  exact ⟨b, rfl, h.below h3, ⟨80, h2⟩, fun e => (by have := h.drv.lt b e; omega), h1, h3⟩
end
def IM (h : Nat) : Nat → Prop := fun q => q = h
theorem ints_two (w : World) (x y : Int) : Ints (w.alloc (.cells #[.int .i64 x, .int .i64 y] 3)) (IM w.heap.size) (some ⟨w.heap.size, 0, none⟩) 2 2 [x, y] := by
  have hnew : (w.alloc (.cells #[.int .i64 x, .int .i64 y] 3)).heap[w.heap.size]? = some (.cells #[.int .i64 x, .int .i64 y] 3 (0, 0)) := heap_alloc_new _ _
  refine ⟨rfl, Nat.le_refl _, by unfold maxLen; omega, fun _ => ⟨_, 0, rfl, rfl, fun j hj => ?_⟩⟩
  match j, hj with
  | 0, _ => exact cell_of hnew 0
  | 1, _ => exact cell_of hnew 1
  | j + 2, h => omega
theorem ints_none (w : World) (M : Nat → Prop) : Ints w M none 0 0 [] := ⟨rfl, Nat.le_refl _, by unfold maxLen; omega, fun h => absurd h (by omega)⟩
end Go.Proofs.Ytlhkkelpombbiaa
