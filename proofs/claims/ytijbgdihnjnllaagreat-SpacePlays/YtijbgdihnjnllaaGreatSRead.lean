/- What a store tells: its beginning, seats, nodes, how much is free. -/
import Derived.Test.YtijbgdihnjnllaaGreatSPut
namespace Go.Proofs.YtijbgdihnjnllaaGreat
open Go.RowKit
set_option linter.unusedVariables false
set_option maxRecDepth 20000

def SupR (w : World) (x y z er : Int) (e : Ending) (w' : World) : Prop := e = .returned (.tuple #[.agg #[.int .i64 x, .int .i64 y, .int .i64 z], .int .i64 er]) ∧ Below w.heap.size w w'
theorem s42 : (Tryz.prog.info? 81).map (·.size) = some 3 := by kernel_rfl
theorem s49x : (Tryz.prog.info? 133).map (·.size) = some 3 := by kernel_rfl
theorem s47 : (Tryz.prog.info? 72).map (·.size) = some 11 := by kernel_rfl
theorem s34 : (Tryz.prog.info? 87).map (·.size) = some 2 := by kernel_rfl
theorem oc3 (x y z : Int) : (#[.int .i64 x, .int .i64 y, .int .i64 z] : Array Value).all (·.oneCell') = true := all_oneCell_toArray (cs := [.int .i64 x, .int .i64 y, .int .i64 z]) (by simp [Value.oneCell'])
theorem oc3s (x y : Int) (A : Option Addr) (n c : Nat) : (#[.int .i64 x, .int .i64 y, .slice A n c] : Array Value).all (·.oneCell') = true := all_oneCell_toArray (cs := [.int .i64 x, .int .i64 y, .slice A n c]) (by simp [Value.oneCell'])
section
variable {w0 w : World} {p d N q : Nat} {O : List Nat} {s : DS} {X : Secs2} {m : List Wr}
theorem fb {b : Nat} {x : List UInt8} (h : w.heap[b]? = some (.cells (bc x).toArray 116 (0, 0))) (hx : x.length = 128) : F.Bts w w.heap.size (some ⟨b, 0, none⟩) 128 128 x :=
  (blk_fbts h hx).more (Array.getElem?_eq_some_iff.1 h).1
theorem kb {b : Nat} {x : List UInt8} (h : w.heap[b]? = some (.cells (bc x).toArray 116 (0, 0))) (hx : x.length = 128) : K.Bts w w.heap.size (some ⟨b, 0, none⟩) 128 128 x :=
  let f := fb h hx
  ⟨f.len, f.cap, f.lim, f.nil, f.at_⟩
set_option maxHeartbeats 1000000 in
theorem begins_gen (h : Sto w0 w p d O N s X q m) (x y z er : Int) (hd : ∀ (w1 : World) (b : Nat), F.Bts w1 w1.heap.size (some ⟨b, 0, none⟩) 128 128 (view X m 0) → Calls Tryz.prog 121 #[.slice (some ⟨b, 0, none⟩) 128 128] w1 (SupR w1 x y z er)) :
    Calls Tryz.prog 75 #[.pointer (some ⟨p, 0, none⟩)] w (SupR w x y z er) := by
  have HD := Lib.hid hd
  obtain ⟨a0, a1, a2⟩ := D.box1 w (Obj.cells #[.int .i64 0, .int .i64 0, .int .i64 0] 81)
  have A0 := Lib.hid a0
  have A1 := Lib.hid a1
  have A2 := Lib.hid a2
  have H := Lib.hid (h.below a1)
  have H64 := Lib.hid h.n64
  have HL := Lib.hid (h.view_len (n := 0) (by have := h.n64; omega) (by unfold inLog; omega))
  clear hd a0 a1 a2 h
  go_enter Tryz.func75, Tryz.ntmps75
  go_wp2_with fail
  refine (get_any (n := 0) H.out (by have := H64.out; omega) (by unfold inLog; omega)).mono ?_
  rintro e w1 ⟨b, rfl, hb1, hb2, hb3⟩
  have HB := Lib.hid (fb hb2 HL.out)
  have G1 := Lib.hid ((hb3.block _ (by rw [A2.out]; omega)).trans A0.out)
  have GB := Lib.hid (A1.out.trans (hb3.mono (by rw [A2.out]; omega)))
  have hs1 : w.heap.size + 1 ≤ w1.heap.size := by have := hb3.size; rw [A2.out] at this; exact this
  clear hb1 hb2 hb3 A0 A1 A2
  go_wp2_with fail
  refine (HD.out w1 b HB.out).mono ?_
  rintro e w2 ⟨rfl, hb3⟩
  have G2 := Lib.hid ((hb3.block w.heap.size (by omega)).trans G1.out)
  have GB2 := Lib.hid (GB.out.trans (hb3.mono (by omega)))
  clear hb3 G1 GB
  go_wp2_with (first | (refine D.wpList_store_row rfl 81 _ _ rfl w.heap.size #[.int .i64 0, .int .i64 0, .int .i64 0] #[.int .i64 x, .int .i64 y, .int .i64 z] 81 rfl rfl G2.out s42 rfl (oc3 x y z) ?_) | fail)
  refine bodyPost_ret (D.ret_row2 rfl rfl (D.setRow_in _ _ _ #[.int .i64 x, .int .i64 y, .int .i64 z] _ G2.out) Tryz.underlying81 rfl s42) rfl ?_
  exact ⟨rfl, below_setRow GB2.out (Nat.le_refl _) _⟩
theorem begins_yes (h : Sto w0 w p d O N s X q m) (hs : U.IsSec (view X m 0)) : Calls Tryz.prog 75 #[.pointer (some ⟨p, 0, none⟩)] w (SupR w (U.num (view X m 0) 0 : Nat) (U.num (view X m 0) 1 : Nat) (U.num (view X m 0) 2 : Nat) 0) :=
  begins_gen h _ _ _ _ fun w1 b hb => U.decode_any (r := true) hb (Nat.le_refl _) ⟨fun _ => hs, fun _ => rfl⟩
set_option maxHeartbeats 1000000 in
theorem super_gen {x y z er : Int} (hb : ∀ w', Below w.heap.size w w' → Calls Tryz.prog 75 #[.pointer (some ⟨p, 0, none⟩)] w' (SupR w' x y z er)) :
    Calls Tryz.prog 35 #[.pointer (some ⟨p, 0, none⟩)] w fun e w' => e = .returned (.agg #[.int .i64 x, .int .i64 y, .int .i64 z]) ∧ Below w.heap.size w w' := by
  have HB := Lib.hid hb
  obtain ⟨a0, a1, a2⟩ := D.box1 w (Obj.cells #[.int .i64 0, .int .i64 0, .int .i64 0] 81)
  have A0 := Lib.hid a0
  have A1 := Lib.hid a1
  have A2 := Lib.hid a2
  clear hb a0 a1 a2
  go_enter Tryz.func35, Tryz.ntmps35
  go_wp2_with fail
  refine (HB.out _ A1.out).mono ?_
  rintro e w1 ⟨rfl, hb3⟩
  have G1 := Lib.hid ((hb3.block _ (by rw [A2.out]; omega)).trans A0.out)
  have GB := Lib.hid (A1.out.trans (hb3.mono (by rw [A2.out]; omega)))
  have hs1 : w.heap.size + 1 ≤ w1.heap.size := by have := hb3.size; rw [A2.out] at this; exact this
  clear hb3 A0 A1 A2
  go_upto_region 2 with (first | (refine wpList_store_new rfl 81 _ _ rfl w1 #[.int .i64 0, .int .i64 0, .int .i64 0] #[.int .i64 x, .int .i64 y, .int .i64 z] rfl rfl s42 rfl (oc3 x y z) ?_) | fail)
  obtain ⟨b0, b1, b2⟩ := D.box1 w1 (Obj.cells #[.int .i64 x, .int .i64 y, .int .i64 z] 81)
  have G2 := Lib.hid ((b1.block w.heap.size (by omega)).trans G1.out)
  have G3 := Lib.hid b0
  have GB2 := Lib.hid (GB.out.trans (b1.mono (by omega)))
  clear b0 b1 b2
  generalize w1.alloc (Obj.cells #[.int .i64 x, .int .i64 y, .int .i64 z] 81) = W at *
  go_wp2_with (first | (refine D.wpList_load_row rfl 81 _ rfl w1.heap.size rfl _ _ _ G3.out _ Tryz.underlying81 rfl s42 ?_) | (refine D.wpList_store_row rfl 81 _ _ rfl w.heap.size #[.int .i64 0, .int .i64 0, .int .i64 0] #[.int .i64 x, .int .i64 y, .int .i64 z] 81 rfl rfl G2.out s42 rfl (oc3 x y z) ?_) | fail)
  refine bodyPost_ret (D.ret_row rfl rfl (D.setRow_in _ _ _ #[.int .i64 x, .int .i64 y, .int .i64 z] _ G2.out) Tryz.underlying81 rfl s42) rfl ?_
  exact ⟨rfl, below_setRow GB2.out (Nat.le_refl _) _⟩
theorem super_yes (h : Sto w0 w p d O N s X q m) (hs : U.IsSec (view X m 0)) : Calls Tryz.prog 35 #[.pointer (some ⟨p, 0, none⟩)] w fun e w' => e = .returned (.agg #[.int .i64 (U.num (view X m 0) 0 : Nat), .int .i64 (U.num (view X m 0) 1 : Nat), .int .i64 (U.num (view X m 0) 2 : Nat)]) ∧ Below w.heap.size w w' :=
  super_gen fun w' hb => begins_yes (h.below hb) hs
/-- A seat's sector: is it one? (er) -/
def SeatR (w : World) (er : Int) (e : Ending) (w' : World) : Prop := ∃ (a b : Int) (A : Option Addr) (n c : Nat), e = .returned (.tuple #[.agg #[.int .i64 a, .int .i64 b, .slice A n c], .int .i64 er]) ∧ Below w.heap.size w w'
theorem dec_seat {w : World} {b : Nat} {x : List UInt8} (hb : F.Bts w w.heap.size (some ⟨b, 0, none⟩) 128 128 x) {er : Int} (he : (A.IsSec x → er = 0) ∧ (¬ A.IsSec x → er = 2)) : Calls Tryz.prog 122 #[.slice (some ⟨b, 0, none⟩) 128 128] w (SeatR w er) := by
  by_cases hs : A.IsSec x
  · rw [he.1 hs]
    refine (A.decode_any (r := true) hb (Nat.le_refl _) ⟨fun _ => hs, fun _ => rfl⟩).mono ?_
    rintro e w' ⟨A, n, c, rfl, _, hb⟩
    exact ⟨_, _, _, _, _, rfl, hb⟩
  · rw [he.2 hs]
    refine (A.decode_any (r := false) hb (Nat.le_refl _) ⟨fun e => (by cases e), fun e => absurd e hs⟩).mono ?_
    rintro e w' ⟨rfl, hb⟩
    exact ⟨_, _, _, _, _, rfl, hb⟩
set_option maxHeartbeats 1000000 in
theorem seat_any (h : Sto w0 w p d O N s X q m) {n : Nat} (hn : n < 8) {er : Int} (he : (A.IsSec (view X m (26 + n)) → er = 0) ∧ (¬ A.IsSec (view X m (26 + n)) → er = 2)) :
    Calls Tryz.prog 76 #[.pointer (some ⟨p, 0, none⟩), .int .i64 n] w (SeatR w er) := by
  have HE := Lib.hid he
  obtain ⟨a0, a1, a2⟩ := D.box1 w (Obj.cells #[.int .i64 0, .int .i64 0, .slice none 0 0] 133)
  have A0 := Lib.hid a0
  have A1 := Lib.hid a1
  have A2 := Lib.hid a2
  have H := Lib.hid (h.below a1)
  have H64 := Lib.hid h.n64
  have HL := Lib.hid (h.view_len (n := 26 + n) (by have := h.n64; omega) (by unfold inLog; omega))
  clear he a0 a1 a2 h
  have hw1 : IntKind.i64.wrap (26 + (n : Int)) = ((26 + n : Nat) : Int) := by rw [IntKind.wrap_i64]; omega
  go_enter Tryz.func76, Tryz.ntmps76
  go_wp2_with fail
  refine (seats_yes H.out hn).mono ?_
  rintro e w1 ⟨rfl, rfl⟩
  go_wp2_with fail
  refine (get_any (n := 26 + n) H.out (by have := H64.out; omega) (by unfold inLog; omega)).mono ?_
  rintro e w1 ⟨b, rfl, hb1, hb2, hb3⟩
  have HB := Lib.hid (fb hb2 HL.out)
  have G1 := Lib.hid ((hb3.block _ (by rw [A2.out]; omega)).trans A0.out)
  have GB := Lib.hid (A1.out.trans (hb3.mono (by rw [A2.out]; omega)))
  have hs1 : w.heap.size + 1 ≤ w1.heap.size := by have := hb3.size; rw [A2.out] at this; exact this
  clear hb1 hb2 hb3 A0 A1 A2
  go_wp2_with fail
  refine (dec_seat HB.out HE.out).mono ?_
  rintro e w2 ⟨a, b', A', n', c', rfl, hb3⟩
  have G2 := Lib.hid ((hb3.block w.heap.size (by omega)).trans G1.out)
  have GB2 := Lib.hid (GB.out.trans (hb3.mono (by omega)))
  clear hb3 G1 GB
  go_wp2_with (first | (refine D.wpList_store_row rfl 133 _ _ rfl w.heap.size #[.int .i64 0, .int .i64 0, .slice none 0 0] #[.int .i64 a, .int .i64 b', .slice A' n' c'] 133 rfl rfl G2.out s49x rfl (oc3s a b' A' n' c') ?_) | fail)
  refine bodyPost_ret (D.ret_row2 rfl rfl (D.setRow_in _ _ _ #[.int .i64 a, .int .i64 b', .slice A' n' c'] _ G2.out) Tryz.underlying133 rfl s49x) rfl ?_
  exact ⟨a, b', A', n', c', rfl, below_setRow GB2.out (Nat.le_refl _) _⟩
set_option maxHeartbeats 1000000 in
theorem seated_any (h : Sto w0 w p d O N s X q m) {r : Bool} (hr : r = true ↔ ∀ i, i < 8 → A.IsSec (view X m (26 + i))) :
    Calls Tryz.prog 37 #[.pointer (some ⟨p, 0, none⟩)] w fun e w' => e = .returned (.bool r) ∧ Below w.heap.size w w' := by
  have H := Lib.hid h
  have HR := Lib.hid hr
  clear h hr
  go_enter Tryz.func37, Tryz.ntmps37
  go_wp2_with fail
  go_loopw [6] (fun i wr => ∃ k : Nat, k ≤ 8 ∧ i = .int .i64 k ∧ Hid (∀ j, j < k → A.IsSec (view X m (26 + j))) ∧ Hid (Below w.heap.size w wr)) (fun i _ => 8 - (intOf i).toNat)
  case atStart => exact ⟨0, Nat.zero_le _, rfl, fun j hj => absurd hj (by omega), Below.refl _ _⟩
  case round =>
    obtain ⟨k, hk, rfl, HA, HB⟩ := hrel
    by_cases hlt : k < 8
    · have H1 := Lib.hid (H.out.below HB.out)
      by_cases hs : A.IsSec (view X m (26 + k))
      · have HS := Lib.hid hs
        clear hs
        go_wp2_with fail
        refine (seat_any (er := 0) H1.out hlt ⟨fun _ => rfl, fun e => absurd HS.out e⟩).mono ?_
        rintro e w1 ⟨a, b, A', n', c', rfl, hb⟩
        have HB1 := Lib.hid (HB.out.trans (hb.mono HB.out.size))
        clear hb
        obtain ⟨b0, b1, b2⟩ := D.box1 w1 (Obj.cells #[.int .i64 a, .int .i64 b, .slice A' n' c'] 133)
        have HB2 : Hid (Below w.heap.size w (w1.alloc (Obj.cells #[.int .i64 a, .int .i64 b, .slice A' n' c'] 133))) := HB1.out.trans (b1.mono HB1.out.size)
        have HA1 : Hid (∀ j, j < k + 1 → A.IsSec (view X m (26 + j))) := fun j hj => by
          by_cases e : j = k
          · rw [e]; exact HS.out
          · exact HA.out j (by omega)
        clear b0 b1 b2
        go_wp2_with (first | (refine wpList_store_new rfl 133 _ _ rfl w1 #[.int .i64 0, .int .i64 0, .slice none 0 0] #[.int .i64 a, .int .i64 b, .slice A' n' c'] rfl rfl s49x rfl (oc3s a b A' n' c') ?_) | fail)
        go_roundw
        case rel => exact ⟨k + 1, by omega, by go_num, HA1, HB2⟩
        case measure => simp [intOf]; omega
      · have HS := Lib.hid hs
        clear hs
        obtain rfl : r = false := by
          cases r with
          | false => rfl
          | true => exact absurd (HR.out.1 rfl k hlt) HS.out
        go_wp2_with fail
        refine (seat_any (er := 2) H1.out hlt ⟨fun e => absurd e HS.out, fun _ => rfl⟩).mono ?_
        rintro e w1 ⟨a, b, A', n', c', rfl, hb⟩
        have HB1 := Lib.hid (HB.out.trans (hb.mono HB.out.size))
        clear hb
        obtain ⟨b0, b1, b2⟩ := D.box1 w1 (Obj.cells #[.int .i64 a, .int .i64 b, .slice A' n' c'] 133)
        have HB2 : Hid (Below w.heap.size w (w1.alloc (Obj.cells #[.int .i64 a, .int .i64 b, .slice A' n' c'] 133))) := HB1.out.trans (b1.mono HB1.out.size)
        clear b0 b1 b2
        go_wp2_with (first | (refine wpList_store_new rfl 133 _ _ rfl w1 #[.int .i64 0, .int .i64 0, .slice none 0 0] #[.int .i64 a, .int .i64 b, .slice A' n' c'] rfl rfl s49x rfl (oc3s a b A' n' c') ?_) | fail)
        go_ret
        exact ⟨rfl, HB2.out⟩
    · obtain rfl : k = 8 := by omega
      obtain rfl : r = true := HR.out.2 HA.out
      rw [show ((8 : Nat) : Int) = 8 from rfl]
      go_wp2_with fail
      go_ret
      exact ⟨rfl, HB.out⟩
set_option maxHeartbeats 1000000 in
theorem around_yes (h : Sto w0 w p d O N s X q m) {n : Nat} (hn : n < 32) : Calls Tryz.prog 62 #[.pointer (some ⟨p, 0, none⟩), .int .i64 n] w (SGet w (view X m (35 + n / 4))) := by
  have H := Lib.hid h
  have H64 := Lib.hid h.n64
  clear h
  have h0 : decide ((n : Int) < 0) = false := by simp
  have h1 : decide ((32 : Int) ≤ n) = false := by simp; omega
  go_enter Tryz.func62, Tryz.ntmps62
  go_wp2_with fail
  refine (barred_ok H.out.st).mono ?_
  rintro e w1 ⟨rfl, rfl⟩
  go_wp2_with fail
  refine (holder_any n _ hn).mono ?_
  rintro e w1 ⟨rfl, rfl⟩
  go_wp2_with fail
  refine (get_any (n := 35 + n / 4) H.out (by have := H64.out; omega) (by unfold inLog; omega)).mono ?_
  rintro e w1 ⟨b, rfl, hb1, hb2, hb3⟩
  have HB2 := Lib.hid hb2
  have HB3 := Lib.hid hb3
  clear hb2 hb3
  go_wp2_with fail
  go_ret2
  exact ⟨b, rfl, hb1, HB2.out, HB3.out⟩
def NodeR (w : World) (y : D.Nn) (e : Ending) (w' : World) : Prop := e = .returned (.tuple #[.agg (D.nc y.up).toArray, .int .i64 0]) ∧ Below w.heap.size w w'
/-- The n-th node's bytes. -/
def nodeB (X : Secs2) (m : List Wr) (n : Nat) : List UInt8 := D.piece (view X m (35 + n / 4)) (n % 4)
theorem mod4 (n : Nat) : (n : Int).tmod 4 = ((n % 4 : Nat) : Int) := by rw [Int.tmod_eq_emod_of_nonneg (by omega)]; omega
set_option maxHeartbeats 1000000 in
theorem node_yes (h : Sto w0 w p d O N s X q m) {n : Nat} (hn : n < 32) (hg : D.good (nodeB X m n) = true) : Calls Tryz.prog 30 #[.pointer (some ⟨p, 0, none⟩), .int .i64 n] w (NodeR w (D.rd (nodeB X m n))) := by
  obtain ⟨y, hy⟩ : ∃ y, D.rd (nodeB X m n) = y := ⟨_, rfl⟩
  rw [hy]
  have HY : Hid (D.rd (D.piece (view X m (35 + n / 4)) (n % 4)) = y) := hy
  clear hy
  obtain ⟨a0, a1, a2⟩ := D.box1 w (Obj.cells D.z11 72)
  have A0 := Lib.hid a0
  have A1 := Lib.hid a1
  have A2 := Lib.hid a2
  have H := Lib.hid (h.below a1)
  have HG := Lib.hid hg
  have HL := Lib.hid (h.view_len (n := 35 + n / 4) (by have := h.n64; omega) (by unfold inLog; omega))
  clear a0 a1 a2 h hg
  have hm4 := mod4 n
  have hm5 : IntKind.i64.wrap ((n : Int).tmod 4) = ((n % 4 : Nat) : Int) := by rw [hm4, IntKind.wrap_i64]; omega
  go_enter Tryz.func30, Tryz.ntmps30
  go_wp2_with fail
  refine (around_yes H.out hn).mono ?_
  rintro e w1 ⟨b, rfl, hb1, hb2, hb3⟩
  have HB := Lib.hid (fb hb2 HL.out)
  have G1 := Lib.hid ((hb3.block _ (by rw [A2.out]; omega)).trans A0.out)
  have GB := Lib.hid (A1.out.trans (hb3.mono (by rw [A2.out]; omega)))
  have hs1 : w.heap.size + 1 ≤ w1.heap.size := by have := hb3.size; rw [A2.out] at this; exact this
  clear hb1 hb2 hb3 A0 A1 A2
  go_wp2_with fail
  have HGET := Lib.hid (D.get_any (i := n % 4) HB.out (Nat.le_refl _) (by omega))
  rw [show D.good (D.piece (view X m (35 + n / 4)) (n % 4)) = true from HG.out] at HGET
  refine HGET.out.mono ?_
  rintro e w2 ⟨rfl, hb3⟩
  simp only [if_true]
  have G2 := Lib.hid ((hb3.block w.heap.size (by omega)).trans G1.out)
  have GB2 := Lib.hid (GB.out.trans (hb3.mono (by omega)))
  clear hb3 G1 GB HGET
  rw [HY.out]
  go_wp2_with (first | (refine D.wpList_store_row rfl 72 _ _ rfl w.heap.size D.z11 (D.nc y.up).toArray 72 rfl rfl G2.out s47 rfl (all_oneCell_toArray (D.nc_one _)) ?_) | fail)
  refine bodyPost_ret (D.ret_row2 rfl rfl (D.setRow_in _ _ _ (D.nc y.up).toArray _ G2.out) Tryz.underlying72 rfl s47) rfl ?_
  exact ⟨rfl, below_setRow GB2.out (Nat.le_refl _) _⟩
set_option maxHeartbeats 1000000 in
theorem free_any (h : Sto w0 w p d O N s X q m) : Calls Tryz.prog 26 #[.pointer (some ⟨p, 0, none⟩)] w fun e w' => e = .returned (.int .i64 ((N - 43 - K.count (view X m 34) 43 (N - 43) : Nat) : Int)) ∧ Below w.heap.size w w' := by
  have H := Lib.hid h
  have h64 := h.n64
  have h1 := h.n1
  have HL := Lib.hid (h.view_len (n := 34) (by omega) (by unfold inLog; omega))
  have hcl := K.count_le (view X m 34) 43 (N - 43)
  have hc0 := h.st.c0
  clear h
  obtain ⟨t, ht⟩ : ∃ t, K.count (view X m 34) 43 (N - 43) = t := ⟨_, rfl⟩
  rw [ht] at hcl ⊢
  have HT := Lib.hid ht
  clear ht
  go_enter Tryz.func26, Tryz.ntmps26
  go_wp2_with fail
  refine (get_any (n := 34) H.out (by omega) (by unfold inLog; omega)).mono ?_
  rintro e w1 ⟨b, rfl, hb1, hb2, hb3⟩
  have HB := Lib.hid (kb hb2 HL.out)
  have H1 := Lib.hid (H.out.below hb3)
  have HB1 := Lib.hid hb3
  clear hb1 hb2 hb3 hc0
  have hc0 := H1.out.st.c0
  go_wp2_with fail
  refine (sectorsD H1.out.ons.sit.drv).mono ?_
  rintro e w2 ⟨rfl, rfl⟩
  go_wp2_with fail
  refine (K.count_yes 43 N HB.out (Nat.le_refl _) (by omega) h1).mono ?_
  rintro e w2 ⟨rfl, hb⟩
  have H2 := Lib.hid (H1.out.below hb)
  have HB2 := Lib.hid (HB1.out.trans (hb.mono HB1.out.size))
  clear hb hc0
  have hc0 := H2.out.st.c0
  rw [HT.out]
  have hw1 : IntKind.i64.wrap ((N : Int) - 43) = ((N - 43 : Nat) : Int) := by rw [IntKind.wrap_i64]; omega
  have hw2 : IntKind.i64.wrap (((N - 43 : Nat) : Int) - (t : Int)) = ((N - 43 - t : Nat) : Int) := by rw [IntKind.wrap_i64]; omega
  go_wp2_with (first | (go_at_call 36; refine (sectorsD H2.out.ons.sit.drv).mono ?_; rintro e w' ⟨rfl, rfl⟩) | fail)
  go_ret
  exact ⟨rfl, HB2.out⟩
end
end Go.Proofs.YtijbgdihnjnllaaGreat
