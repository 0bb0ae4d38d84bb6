/- What the laws ask of package verb: one bundle of contracts, to be proved of the landed code; awake, walked over it. -/
import Derived.Test.YtfignanjelebaaaVAns
namespace Go.Proofs.Ytfignanjelebaaa
open Go.RowKit
set_option linter.unusedVariables false
def zeroV : Vb := ⟨0, 0, 0, 0, 0, 0, 0, 0, 0, 0, [], [], []⟩
def zeroR : Rp := ⟨0, 0, 0, 0, 0, 0, 0, 0, 0, 0, [], []⟩
def zeroC : Rc := ⟨0, 0, 0⟩
/-- A slice that holds these bytes, and no error; or an empty one, and ErrForm. -/
def SlcE (w : World) (good : Prop) (l : List UInt8) (e : Ending) (w' : World) : Prop :=
  Below w.heap.size w w' ∧ ((good ∧ ∃ A n c, Bts w' w'.heap.size A n c l ∧ e = .returned (.tuple #[.slice A n c, .int .i64 0])) ∨ (¬ good ∧ ∃ A n c, Bts w' w'.heap.size A n c [] ∧ e = .returned (.tuple #[.slice A n c, .int .i64 2])))
def DecP (w : World) (b : List UInt8) (e : Ending) (w' : World) : Prop :=
  Below w.heap.size w w' ∧ ((∃ v : Vb, v.Good ∧ b = v.frame ∧ ∃ A n c, Bts w' w'.heap.size A n c v.d ∧ e = .returned (.tuple #[.agg (vc v A n c).toArray, .int .i64 0])) ∨ ((∀ v : Vb, v.Good → b ≠ v.frame) ∧ e = .returned (.tuple #[.agg (vc zeroV none 0 0).toArray, .int .i64 2])))
/-- A reply that was read. -/
def RepP (w' : World) (r : Rp) (k : Int) (e : Ending) : Prop :=
  ∃ A n c X m d, Bts w' w'.heap.size A n c r.d ∧ Strs w' w'.heap.size X m d r.ns ∧ e = .returned (.tuple #[.agg (rc r A n c X m d).toArray, .int .i64 k])
def AnsP (w : World) (b : List UInt8) (e : Ending) (w' : World) : Prop :=
  Below w.heap.size w w' ∧ ((∃ r : Rp, r.Good ∧ b = r.frame ∧ RepP w' r 0 e) ∨ ((∀ r : Rp, r.Good → b ≠ r.frame) ∧ e = .returned (.tuple #[.agg (rc zeroR none 0 0 none 0 0).toArray, .int .i64 2])))
def CalP (w : World) (b : List UInt8) (e : Ending) (w' : World) : Prop :=
  Below w.heap.size w w' ∧ ((∃ r : Rc, r.Good ∧ b = r.frame ∧ e = .returned (.tuple #[.agg (kc r).toArray, .int .i64 0])) ∨ ((∀ r : Rc, r.Good → b ≠ r.frame) ∧ e = .returned (.tuple #[.agg (kc zeroC).toArray, .int .i64 2])))
/-- What Long gives: of a Short the reply with just these. -/
def Rp.of_short (r : Rp) : Rp := { r with lf := 0, sq := 0, ep := 0, d := [], ns := [] }
def LngP (w : World) (b : List UInt8) (e : Ending) (w' : World) : Prop :=
  Below w.heap.size w w' ∧ ((∃ r : Rp, r.Good ∧ r.of_short = r ∧ b = r.short ∧ RepP w' r 0 e) ∨ ((∀ r : Rp, r.Good → b ≠ r.short) ∧ e = .returned (.tuple #[.agg (rc zeroR none 0 0 none 0 0).toArray, .int .i64 2])))
/-- Which kinds change something. -/
def chg (k : Int) : Prop := k = 3 ∨ k = 4 ∨ k = 5 ∨ k = 6 ∨ k = 7 ∨ k = 8 ∨ k = 11 ∨ k = 12
instance (k : Int) : Decidable (chg k) := by unfold chg; infer_instance
structure Verbs : Prop where
  good : ∀ (v : Vb) (A : Option Addr) (n c : Nat) (w : World), v.d.length = n → Calls Try.prog 13 #[.agg (vc v A n c).toArray] w fun e w' => e = .returned (.bool (decide v.Good)) ∧ Below w.heap.size w w'
  chgs : ∀ (k : Int) (w : World), Calls Try.prog 15 #[.int .i64 k] w fun e w' => e = .returned (.bool (decide (chg k))) ∧ Below w.heap.size w w'
  enc : ∀ (v : Vb) (A : Option Addr) (n c B : Nat) (w : World), Bts w B A n c v.d → B ≤ w.heap.size → Calls Try.prog 10 #[.agg (vc v A n c).toArray] w (SlcE w v.Good v.frame)
  dec : ∀ (A : Option Addr) (n c B : Nat) (b : List UInt8) (w : World), Bts w B A n c b → B ≤ w.heap.size → n ≤ 281474976700000 → Calls Try.prog 16 #[.slice A n c] w (DecP w b)
  ans : ∀ (r : Rp) (A X : Option Addr) (n c m d B : Nat) (w : World), Bts w B A n c r.d → Strs w B X m d r.ns → B ≤ w.heap.size → Calls Try.prog 18 #[.agg (rc r A n c X m d).toArray] w (SlcE w r.Good r.frame)
  ansd : ∀ (A : Option Addr) (n c B : Nat) (b : List UInt8) (w : World), Bts w B A n c b → B ≤ w.heap.size → n ≤ 281474976700000 → Calls Try.prog 20 #[.slice A n c] w (AnsP w b)
  cal : ∀ (r : Rc) (w : World), Calls Try.prog 22 #[.agg (kc r).toArray] w (SlcE w r.Good r.frame)
  cald : ∀ (A : Option Addr) (n c B : Nat) (b : List UInt8) (w : World), Bts w B A n c b → B ≤ w.heap.size → n ≤ 281474976700000 → Calls Try.prog 24 #[.slice A n c] w (CalP w b)
  shrt : ∀ (r : Rp) (A X : Option Addr) (n c m d B : Nat) (w : World), Bts w B A n c r.d → Strs w B X m d r.ns → B ≤ w.heap.size → Calls Try.prog 25 #[.agg (rc r A n c X m d).toArray] w fun e w' => Below w.heap.size w w' ∧ ∃ A n c, Bts w' w'.heap.size A n c (if r.Good then r.short else []) ∧ e = .returned (.slice A n c)
  lng : ∀ (A : Option Addr) (n c B : Nat) (b : List UInt8) (w : World), Bts w B A n c b → B ≤ w.heap.size → n ≤ 281474976700000 → Calls Try.prog 28 #[.slice A n c] w (LngP w b)
def v0 : Vb := ⟨2, 0, 1, 2, 0, 0, 0, 0, 0, 0, [47, 97], [], []⟩
def r0 : Rp := ⟨1, 0, 0, 7, 0, 0, 0, 0, 0, 0, [], []⟩
theorem v0_good : v0.Good := by decide
theorem r0_good : r0.Good := by decide
theorem Vb.Good.flen {v : Vb} (h : v.Good) : v.frame.length ≤ 819 := by
  have := h.len
  rw [Vb.frame, fram_length]
  omega
theorem Rp.Good.flen {r : Rp} (h : r.Good) : r.frame.length ≤ 13621 := by
  have := h.len
  rw [Rp.frame, fram_length]
  omega
set_option maxRecDepth 100000 in
set_option maxHeartbeats 4000000 in
theorem awake_any (H : Verbs) (w : World) : Calls Try.prog 12 #[] w fun e w' => e = .returned (.bool true) ∧ Below w.heap.size w w' := by
  go_enter Try.func12, Try.ntmps12
  go_wp2_with fail
  refine (H.enc v0 none 0 0 0 w (Bts.nil_ _ _) (Nat.zero_le _)).mono ?_
  rintro e w1 ⟨hb1, ⟨_, A1, n1, c1, hB1, rfl⟩ | ⟨hn, _⟩⟩
  case inr => exact absurd v0_good hn
  have HB1 := Lib.hid hb1
  have D1 := Lib.hid hB1
  have hl1 : n1 ≤ 281474976700000 := by rw [← hB1.len]; exact Nat.le_trans v0_good.flen (by omega)
  clear hb1 hB1
  go_wp2_with fail
  refine (H.dec A1 n1 c1 _ v0.frame _ D1.out (Nat.le_refl _) hl1).mono ?_
  rintro e w2 ⟨hb2, ⟨v, hv, hf, A2, n2, c2, hB2, rfl⟩ | ⟨hn, _⟩⟩
  case inr => exact absurd rfl (hn v0 v0_good)
  obtain rfl : v0 = v := Vb.frame_inj v0_good hv hf
  have HB2 := Lib.hid (HB1.out.trans (hb2.mono HB1.out.size))
  have D2 := Lib.hid hB2
  clear hb2 hB2 hv hf hl1 D1 HB1
  obtain ⟨b0, bb, bz⟩ := box1 w2 (Obj.cells (vc v0 A2 n2 c2).toArray 26)
  have HB2' := Lib.hid (HB2.out.trans (bb.mono HB2.out.size))
  have B2 := Lib.hid b0
  have hs2 : w2.heap.size < (w2.alloc (Obj.cells (vc v0 A2 n2 c2).toArray 26)).heap.size := by omega
  clear b0 bb bz
  go_wp2_with (first | (refine wpList_store_new rfl 26 _ _ rfl w2 _ (vc v0 A2 n2 c2).toArray rfl rfl s26 rfl (all_oneCell_toArray (vc_one _ _ _ _)) ?_) | fail)
  generalize w2.alloc (Obj.cells (vc v0 A2 n2 c2).toArray 26) = W2 at *
  refine (H.ans r0 none none 0 0 0 0 0 W2 (Bts.nil_ _ _) (Strs.nil_ _ _) (Nat.zero_le _)).mono ?_
  rintro e w3 ⟨hb3, ⟨_, A3, n3, c3, hB3, rfl⟩ | ⟨hn, _⟩⟩
  case inr => exact absurd r0_good hn
  have HB3 := Lib.hid (HB2'.out.trans (hb3.mono HB2'.out.size))
  have B3 := Lib.hid ((hb3.block _ hs2).trans B2.out)
  have hs3 : w2.heap.size < w3.heap.size := Nat.lt_of_lt_of_le hs2 hb3.size
  have D3 := Lib.hid hB3
  have hl3 : n3 ≤ 281474976700000 := by rw [← hB3.len]; exact Nat.le_trans r0_good.flen (by omega)
  clear hb3 hB3 B2 HB2' hs2
  go_wp2_with fail
  refine (H.ansd A3 n3 c3 _ r0.frame _ D3.out (Nat.le_refl _) hl3).mono ?_
  rintro e w4 ⟨hb4, ⟨r, hr, hf, A4, n4, c4, X4, m4, d4, hB4, hS4, rfl⟩ | ⟨hn, _⟩⟩
  case inr => exact absurd rfl (hn r0 r0_good)
  obtain rfl : r0 = r := Rp.frame_inj r0_good hr hf
  have HB4 := Lib.hid (HB3.out.trans (hb4.mono HB3.out.size))
  have B4 := Lib.hid ((hb4.block _ hs3).trans B3.out)
  have hs4 : w2.heap.size < w4.heap.size := Nat.lt_of_lt_of_le hs3 hb4.size
  clear hb4 hB4 hS4 hr hf hl3 D3 HB3 B3 hs3
  obtain ⟨b0, bb, bz⟩ := box1 w4 (Obj.cells (rc r0 A4 n4 c4 X4 m4 d4).toArray 44)
  have HB5 := Lib.hid (HB4.out.trans (bb.mono HB4.out.size))
  have B5 := Lib.hid ((bb.block _ hs4).trans B4.out)
  obtain ⟨_, _, _, e3, _⟩ := rc_cells b0
  obtain ⟨_, _, _, f3, _, f5, _⟩ := vc_cells B5.out
  clear b0 bb bz
  have hk : v0.d.length = n2 := D2.out.len
  go_wp2_with (first | (refine wpList_store_new rfl 44 _ _ rfl w4 _ (rc r0 A4 n4 c4 X4 m4 d4).toArray rfl rfl s44 rfl (all_oneCell_toArray (rc_one _ _ _ _ _ _ _)) ?_) | (refine wpList_load_row rfl 26 _ rfl w2.heap.size rfl _ _ _ B5.out _ Try.underlying26 rfl s26 ?_) | fail)
  refine (H.good v0 A2 n2 c2 _ hk).mono ?_
  rintro e w5 ⟨rfl, hb5⟩
  rw [decide_eq_true v0_good]
  have HB6 := Lib.hid (HB5.out.trans (hb5.mono HB5.out.size))
  clear hb5
  go_wp2_with fail
  refine (H.chgs 3 _).mono ?_
  rintro e w6 ⟨rfl, hb6⟩
  rw [decide_eq_true (show chg 3 from .inl rfl)]
  have HB7 := Lib.hid (HB6.out.trans (hb6.mono HB6.out.size))
  clear hb6
  go_wp2_with fail
  go_ret
  exact ⟨rfl, HB7.out⟩
end Go.Proofs.Ytfignanjelebaaa
