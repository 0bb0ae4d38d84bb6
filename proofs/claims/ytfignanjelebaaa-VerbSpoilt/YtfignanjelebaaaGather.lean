/- field.gather: a range over slices.Backward, walked. -/
import Derived.RangeFuncBox
import Derived.RangeFuncLeaves
import Derived.RangeFuncWrites
import Derived.Shelf.Abstract
import Derived.OwnWalkIn
import Derived.TacticsInMore
import Derived.LoopNIn
import Derived.LoopIn
import Derived.Laws.BitsAllLaws
import Derived.Test.YtfignanjelebaaaWords
namespace Go.Proofs.Ytfignanjelebaaa
open Go.RowKit Go.Shelf
set_option linter.unusedVariables false
attribute [local go_sem] Oper.semAt_some

/-- What comes, from the end on: the place and the byte, k of them. -/
def bk (l : List UInt8) (k : Nat) : List (Nat × UInt8) := (List.range k).map fun j => (l.length - 1 - j, l[l.length - 1 - j]?.getD 0)
theorem bk_succ (l : List UInt8) (k : Nat) : bk l (k + 1) = bk l k ++ [(l.length - 1 - k, l[l.length - 1 - k]?.getD 0)] := by simp [bk, List.range_succ]
theorem bk_length (l : List UInt8) (k : Nat) : (bk l k).length = k := by simp [bk]
theorem bk_all (l : List UInt8) : (bk l l.length).map (·.2) = l.reverse := by
  apply List.ext_getElem
  · simp [bk]
  · intro i h1 h2
    have : i < l.length := by simpa [bk] using h1
    simp [bk]
    rw [List.getElem?_eq_getElem (by omega)]
    rfl
abbrev encs (x : Nat × UInt8) : Array Value := #[Value.int .i64 (x.1 : Int), Value.int .u8 (x.2.toNat : Int)]

/-- Below n₀, and at block g, nothing has turned. -/
structure KB (n₀ g : Nat) (W W' : World) : Prop where
  bel : Below n₀ W W'
  blk : W'.heap[g]? = W.heap[g]?
theorem KB.refl (n₀ g : Nat) (W : World) : KB n₀ g W W := ⟨Below.refl _ _, rfl⟩
theorem KB.trans {n₀ g : Nat} {a b c : World} (h : KB n₀ g a b) (k : KB n₀ g b c) : KB n₀ g a c := ⟨h.bel.trans k.bel, k.blk.trans h.blk⟩
theorem KB.cell {n₀ g : Nat} {a b : World} (h : KB n₀ g a b) (o : Nat) : b.cell? ⟨g, o, none⟩ = a.cell? ⟨g, o, none⟩ := World.cell?_of_block h.blk
theorem KB.putObj {n₀ g : Nat} {w : World} (hn : n₀ ≤ w.heap.size) (hg : g < w.heap.size) (W : World) (l : Nat) (o o' : Obj) (hl : w.heap.size ≤ l) (ho : W.heap[l]? = some o) (h1 : o.isCells = false) (h2 : o.isWalk = false) : KB n₀ g W (W.putObj l o') :=
  ⟨belowK_b hn W l o o' hl ho h1 h2, (belowK_b (n₀ := g + 1) hg W l o o' hl ho h1 h2).block g (by omega)⟩

set_option maxRecDepth 100000 in
set_option maxHeartbeats 2000000 in
theorem back1_in (F : Fence) (n : Nat) (h37 : F.fn 82) (hro : F.round = none) (hn : 1 ≤ n) (ll Bs n₀ cap len : Nat) (A : Option Addr) (l : List UInt8) (J Jx : List (Nat × UInt8) → World → Prop)
    (hY : ∀ pre x W, J pre W → pre.length < len → YieldAt F (n - 1) Try.prog ll #[.int .i64 (x.1 : Int), .int .u8 (x.2.toNat : Int)] W fun e W' =>
      (e = .returned (.bool true) ∧ J (pre ++ [x]) W' ∧ KB n₀ Bs W W') ∨ (e = .returned (.bool false) ∧ Jx (pre ++ [x]) W'))
    (W : World) (hBs : W.cell? ⟨Bs, 0, none⟩ = some (.slice A len cap)) (hB : Bts W n₀ A len cap l) (hlen : len ≤ 4) (h0 : J [] W) :
    CallsIn F n Try.prog 82 #[.func (.yield ll) #[] #[], .pointer (some ⟨Bs, 0, none⟩)] W fun e W' => (∃ v, e = .returned v) ∧
      ((∃ ys, ys = bk l len ∧ J ys W') ∨ (∃ pre, (∃ k, k ≤ len ∧ pre = bk l k) ∧ Jx pre W')) := by
  have HL := Lib.hid hB.len
  have HB := Lib.hid hB
  clear hB
  refine callsIn_of_wp Try.func82 rfl h37 ?_ hro
  simp only [Try.ntmps82, List.size_toArray, List.length_cons, List.length_nil, Nat.reduceAdd, Nat.reduceSub, Array.replicate_succ, Array.replicate_zero, List.push_toArray, List.append_toArray, List.nil_append, List.cons_append]
  gi_wp2
  gi_loopw [3] (fun i wr => ∃ m : Nat, m ≤ len ∧ i = .int .i64 ((m : Int) - 1) ∧ J (bk l (len - m)) wr ∧ KB n₀ Bs W wr)
    (fun i _ => (intOf i + 1).toNat)
  case atStart => exact ⟨len, Nat.le_refl _, rfl, by rw [Nat.sub_self]; exact h0, KB.refl _ _ _⟩
  case round =>
    obtain ⟨m, hm, rfl, hJs, hnx⟩ := hrel
    have hbs : wr.cell? ⟨Bs, 0, none⟩ = some (.slice A len cap) := (hnx.cell 0).trans hBs
    rcases m with _ | j
    · gi_wp2
      go_end0
      exact ⟨⟨_, rfl⟩, .inl ⟨_, rfl, by simpa using hJs⟩⟩
    · obtain ⟨b, off, rfl, hb, hc⟩ := (HB.out.below hnx.bel).cell (k := j) (by omega)
      have ej : ((j + 1 : Nat) : Int) - 1 = (j : Int) := by omega
      rw [ej]
      clear ej
      obtain ⟨fn, tmps, assign, body, hy, hR⟩ := hY _ (j, l[j]?.getD 0) wr hJs (by rw [bk_length]; omega)
      dsimp only at hy
      have hge : (0 : Int) ≤ (j : Int) := by omega
      gi_wp2
      refine hR.mono ?_
      have ek : bk l (len - (j + 1)) ++ [(j, l[j]?.getD 0)] = bk l (len - j) := by
        have e1 : len - j = len - (j + 1) + 1 := by omega
        have e2 : l.length - 1 - (len - (j + 1)) = j := by rw [HL.out]; omega
        rw [e1, bk_succ, e2]
      rintro e W3 (⟨rfl, hJ3, hk3⟩ | ⟨rfl, hJx3⟩)
      · rw [ek] at hJ3
        clear ek
        gi_wp2
        go_roundw
        case rel => exact ⟨j, by omega, rfl, hJ3, hnx.trans hk3⟩
        case measure => simp [intOf]
      · rw [ek] at hJx3
        clear ek
        gi_wp2
        refine bodyPost_ret (results_none rfl _ _ _) rfl ?_
        exact ⟨⟨_, rfl⟩, .inr ⟨_, ⟨len - j, by omega, rfl⟩, hJx3⟩⟩
set_option maxHeartbeats 1000000 in
theorem back_in (F : Fence) (n : Nat) (h36 : F.fn 80) (hro : F.round = none) (a : Option Addr) (len cap : Nat) (w : World) :
    CallsIn F n Try.prog 80 #[.slice a len cap] w fun e w' => e = .returned (.func (.func 82) #[] #[.pointer (some ⟨w.heap.size, 0, none⟩)]) ∧ w' = w.alloc (.cells #[.slice a len cap] 24) := by
  refine callsIn_of_wp Try.func80 rfl h36 ?_ hro
  simp only [Try.ntmps80, List.size_toArray, List.length_cons, List.length_nil, Nat.reduceAdd, Nat.reduceSub, Array.replicate_succ, Array.replicate_zero, List.push_toArray, List.append_toArray, List.nil_append, List.cons_append]
  gi_wp2
  go_ret
  exact ⟨rfl, rfl⟩
theorem back_stops (F : Fence) (n : Nat) (h37 : F.fn 82) (hro : F.round = none) (hn : 1 ≤ n) (Bs n₀ : Nat) (A : Option Addr) (len cap : Nat) (l : List UInt8) (w : World) (hBs : Bs < w.heap.size) (hn₀ : n₀ ≤ w.heap.size) (hlen : len ≤ 4)
    (hc : w.cell? ⟨Bs, 0, none⟩ = some (.slice A len cap)) (hI : Bts w n₀ A len cap l) :
    SeqStopsK F n Try.prog 82 #[.pointer (some ⟨Bs, 0, none⟩)] encs (KB n₀ Bs) (fun ys => ys = bk l len) (fun pre => ∃ k, k ≤ len ∧ pre = bk l k) len w := fun ll J Jx W hW _ _ hY h0 =>
  back1_in F n h37 hro hn ll Bs n₀ cap len A l J Jx hY W ((hW.cell (p := ⟨Bs, 0, none⟩) hBs).trans hc) (hI.below (hW.mono hn₀)) hlen h0

theorem gath_or {g : Nat} (hg : g < 16777216) (b : UInt8) : bits .or .i64 ((g : Int) * 256) (b.toNat : Int) = ((g * 256 + b.toNat : Nat) : Int) := by
  have hb := b.toNat_lt
  have e : (g : Int) * 256 = ((g * 256 : Nat) : Int) := by omega
  have hx : g * 256 ||| b.toNat < 2 ^ 63 := Nat.or_lt_two_pow (by omega) (by omega)
  have o1 : ∀ a : Nat, a < 9223372036854775808 → (BitVec.ofInt 64 (a : Int)).toNat = a := fun a ha => by
    rw [BitVec.ofInt_natCast, BitVec.toNat_ofNat]; exact Nat.mod_eq_of_lt (by omega)
  have h : bits .or .i64 (((g * 256 : Nat)) : Int) (b.toNat : Int) = ((g * 256 ||| b.toNat : Nat) : Int) := by
    show IntKind.i64.wrap ((BitVec.ofInt 64 ((g * 256 : Nat) : Int) ||| BitVec.ofInt 64 (b.toNat : Int)).toNat : Int) = _
    rw [BitVec.toNat_or, o1 _ (by omega), o1 _ (by omega), IntKind.wrap_i64]
    omega
  have h2 : g * 256 ||| b.toNat = g * 256 + b.toNat := by
    rw [Nat.mul_comm]
    exact (Nat.two_pow_add_eq_or_of_lt (i := 8) (by omega) g).symm
  rw [e, h, h2]

set_option maxRecDepth 100000 in
set_option maxHeartbeats 2000000 in
theorem gather_in (F : Fence) (n : Nat) (h30 : F.fn 71) (h36 : F.fn 80) (h37 : F.fn 82) (hro : F.round = none) (hn : 3 ≤ n) (a : Option Addr) (len cap : Nat) (l : List UInt8) (w : World) (hI : Bts w w.heap.size a len cap l) (hlen : len ≤ 4) :
    CallsIn F n Try.prog 71 #[.slice a len cap] w fun e W' => e = .returned (.int .i64 (big l : Nat)) ∧ Below w.heap.size w W' := by
  have h1 : 1 ≤ n := by omega
  obtain rfl := hI.len
  have HI := Lib.hid hI
  clear hI
  refine callsIn_of_wp_marks Try.func71 rfl h30 ?_ hro
  simp only [Try.ntmps71, List.size_toArray, List.length_cons, List.length_nil, Nat.reduceAdd, Nat.reduceSub, Array.replicate_succ, Array.replicate_zero, List.push_toArray, List.append_toArray, List.nil_append, List.cons_append]
  gi_wp2_with (gi_at_call 80; refine (back_in F (n - 1) h36 hro _ _ _ _).mono ?_; rintro e w' ⟨rfl, rfl⟩)
  have bS := Boxed.new w 3 (.int .i64 0)
  have bN := Boxed.new (w.alloc (.cells #[.int .i64 0] 3)) 24 (.slice a l.length cap)
  rw [World.size_alloc] at bN
  have hB0 : Below w.heap.size w ((w.alloc (.cells #[.int .i64 0] 3)).alloc (.cells #[.slice a l.length cap] 24)) := ((Below.refl _ w).alloc (Nat.le_refl _) _).alloc (by simp) _
  refine wpIn_rangeFunc_ownG hro h1 (gf := 82) (lb := #[.pointer (some ⟨w.heap.size + 1, 0, none⟩)]) rfl h37 (enters_of Try.func82 (by kernel_rfl) rfl)
    (back_stops F (n - 1) h37 hro (by omega) (w.heap.size + 1) w.heap.size a l.length cap l _ (by simp) (by simp; omega) hlen bN.cell (HI.out.below hB0)) KB.trans (KB.putObj (by simp; omega) (by simp)) (Below.refl _ _) (fun _ => rfl)
    (fun pre W => (W.cell? ⟨w.heap.size, 0, none⟩ = some (.int .i64 (gath (pre.map (·.2)) : Nat)) ∧ W.frozen? ⟨w.heap.size, 0, none⟩ = false) ∧ Below w.heap.size w W)
    (fun _ _ _ => False)
    (OwnFrom.and (Own.from (fun s A B row hs hg hr => ⟨cell_kept hs.1 hg hr, (frozen_kept hs.1 hg hr).trans hs.2⟩) _) (ownFrom_below (Nat.le_refl _) (by simp; omega)))
    (fun _ _ _ _ _ hs _ _ => hs)
    ⟨⟨(bS.alloc _).cell, (bS.alloc _).frozen⟩, hB0⟩
    (fun x => { tmps := #[.slice a l.length cap, undef, .int .i64 0, .pointer (some ⟨w.heap.size, 0, none⟩), undef,   .int .u8 (x.2.toNat : Int), .slice a l.length cap, .func (.func 82) #[] #[.pointer (some ⟨w.heap.size + 1, 0, none⟩)], .int .i64 (x.1 : Int), .int .u8 (x.2.toNat : Int), undef, undef, undef, undef, undef, undef], defers := [] }) ?assign ?body ?done ?stop
  case assign =>
    intro l x W K hK
    gi_wp2
    exact hK
  case body =>
    rintro l pre x W ⟨⟨hc, hf⟩, hB⟩ hp
    have hg := gath_lt (pre.map (·.2))
    have hg3 : gath (pre.map (·.2)) < 16777216 := by
      rw [List.length_map] at hg
      have : 256 ^ pre.length ≤ 256 ^ 3 := Nat.pow_le_pow_right (by omega) (by omega)
      omega
    clear hg
    have hgs := Lib.hid (gath_snoc (pre.map (·.2)) x.2)
    generalize gath (pre.map (·.2)) = g at *
    have hbt := x.2.toNat_lt
    have hw : wrap64 (x.2.toNat : Int) = (x.2.toNat : Int) := by unfold wrap64; omega
    gi_wp2
    rw [gath_or hg3]
    refine ⟨(KeepsOthers.setCell _ _ _).from _, ⟨(Below.refl w.heap.size W).setCell (p := ⟨w.heap.size, 0, none⟩) (Nat.le_refl _) _, Below.heap_setCell W ⟨w.heap.size, 0, none⟩ _ _ (by simp)⟩, ⟨?_, by rw [World.frozen?_setCell]; exact hf⟩, hB.setCell (p := ⟨w.heap.size, 0, none⟩) (Nat.le_refl _) _⟩
    rw [List.map_append]
    have hgs' : gath (pre.map (·.2) ++ [x].map (·.2)) = g * 256 + x.2.toNat := hgs.out
    rw [hgs']
    exact World.cell?_setCell_same' _ _ _ (by rw [hc]; rfl)
  case done =>
    rintro D ys W hD rfl ⟨⟨hc, _⟩, hB⟩ hK
    rw [bk_all, gath_rev] at hc
    gi_wp2
    refine ⟨by simp, .inl ⟨_, _, rfl, run_takeDeferred hK, ?_⟩⟩
    exact ⟨_, results_tmp rfl _ _ _, rfl, hB.trans (belowK_b (w := w) (Nat.le_refl _) W D _ _ (by simp at hD; omega) hK rfl rfl)⟩
  case stop =>
    rintro D c pre W _ _ h _
    exact h.elim
theorem gather_any (a : Option Addr) (len cap B : Nat) (l : List UInt8) (w : World) (hI : Bts w B a len cap l) (hB : B ≤ w.heap.size) (hlen : len ≤ 4) :
    Calls Try.prog 71 #[.slice a len cap] w fun e w' => e = .returned (.int .i64 (big l : Nat)) ∧ Below w.heap.size w w' :=
  (callsIn_wide (n := 3)).1 (gather_in Fence.wide 3 trivial trivial trivial rfl (by omega) a len cap l w (hI.more hB) hlen)
end Go.Proofs.Ytfignanjelebaaa
