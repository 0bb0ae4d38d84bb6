/- 'has', 'Put', 'setSuper', 'seats', 'SetSeat' of no client, 'fillMarks'. -/
import Derived.Test.YtijbgdihnjnllaaGreatSChg
import Derived.Test.YtijbgdihnjnllaaGreatMU
import Derived.Test.YtijbgdihnjnllaaGreatMA
import Derived.Test.YtijbgdihnjnllaaGreatMK
namespace Go.Proofs.YtijbgdihnjnllaaGreat
open Go.RowKit
set_option linter.unusedVariables false
set_option maxRecDepth 20000

theorem okn_of {n N : Nat} (hN : N ≤ 1024) (hn : n < N) (hl : ¬ inLog n) : okn n = true := by
  rw [okn_iff]
  unfold inLog at hl
  omega
/-- The contract's end: the store with other sectors to be. -/
def Put1 (w0 w : World) (p d : Nat) (O : List Nat) (N : Nat) (s : DS) (X : Secs2) (q : Nat) (m' : List Wr) (e : Ending) (w' : World) : Prop := e = .returned (.int .i64 0) ∧ Sto w0 w' p d O N s X q m' ∧ Chg [q] w w'
section
variable {w0 w : World} {p d N q : Nat} {O : List Nat} {s : DS} {X : Secs2} {m : List Wr}
theorem MapAt.nocell {o : Nat} (h : MapAt w q m) : w.cell? ⟨q, o, none⟩ = none := by
  obtain ⟨es, clock, hb, _⟩ := h
  simp [World.cell?, hb]
theorem kbts {n c g : Nat} {l : List UInt8} {B : Nat} (h : K.Bts w B (some ⟨g, 0, none⟩) n c l) : Bts w (IM g) (some ⟨g, 0, none⟩) n c l :=
  ⟨h.len, h.cap, h.lim, fun hn => ⟨g, 0, rfl, rfl, fun j v hj => by
    obtain ⟨b, off, e, hb, hc⟩ := h.at_ hn
    cases e
    have hjl : j < l.length := by have := (List.getElem?_eq_some_iff.1 hj).1; rwa [bc_len] at this
    rw [bc_get hjl] at hj
    rw [hc j (by rw [← h.len]; exact hjl), hj]⟩⟩
theorem kbts_ne {n c g : Nat} {l : List UInt8} {B : Nat} (h : K.Bts w B (some ⟨g, 0, none⟩) n c l) (hn : 0 < n) (hq : MapAt w q m) : g ≠ q ∧ g < w.heap.size := by
  obtain ⟨b, off, e, hb, hc⟩ := h.at_ hn
  cases e
  have hc0 := hc 0 hn
  refine ⟨fun e => ?_, ?_⟩
  · subst e
    rw [hq.nocell] at hc0
    cases hc0
  · apply Classical.byContradiction
    intro hge
    have : w.heap[g]? = none := Array.getElem?_eq_none (by omega)
    simp [World.cell?, this] at hc0
theorem has_yes (h : Sto w0 w p d O N s X q m) {n : Nat} (hn : n < N) (hl : ¬ inLog n) :
    Calls Tryz.prog 117 #[.pointer (some ⟨p, 0, none⟩), .int .i64 n] w fun e w' => e = .returned (.bool true) ∧ w = w' := by
  have H := Lib.hid h
  have hc0 := h.st.c0
  unfold inLog at hl
  clear h
  have hnn : (0 : Int) ≤ (n : Int) := by omega
  have hnN : (n : Int) < N := by omega
  by_cases h1 : 1 ≤ n
  · have h26 : decide ((n : Int) < 26) = false := by simp; omega
    have h1' : decide ((1 : Int) ≤ n) = true := by simp; omega
    go_enter Tryz.func117, Tryz.ntmps117
    go_wp2_with (first | (go_at_call 36; refine (sectorsD H.out.ons.sit.drv).mono ?_; rintro e w' ⟨rfl, rfl⟩) | fail)
    go_ret
    exact ⟨rfl, rfl⟩
  · obtain rfl : n = 0 := by omega
    go_enter Tryz.func117, Tryz.ntmps117
    go_wp2_with (first | (go_at_call 36; refine (sectorsD H.out.ons.sit.drv).mono ?_; rintro e w' ⟨rfl, rfl⟩) | fail)
    go_ret
    exact ⟨rfl, rfl⟩
set_option maxHeartbeats 1000000 in
theorem put_yes (h : Sto w0 w p d O N s X q m) {n c : Nat} {x : List UInt8} {A : Option Addr} {M : Nat → Prop} (hn : n < N) (hl : ¬ inLog n) (hB : Bts w M A 128 c x) (hM : ∀ b, M b → b < w.heap.size ∧ b ≠ q) (hr : find m n ≠ none ∨ m.length < 24) :
    Calls Tryz.prog 69 #[.pointer (some ⟨p, 0, none⟩), .int .i64 n, .slice A 128 c] w (Put1 w0 w p d O N s X q (ins n x m)) := by
  have H := Lib.hid h
  have HB := Lib.hid hB
  have HM := Lib.hid hM
  have HR := Lib.hid hr
  have HN := Lib.hid hn
  have HL := Lib.hid hl
  clear h hB hM hr hn hl
  go_enter Tryz.func69, Tryz.ntmps69
  go_wp2_with fail
  refine (barred_ok H.out.st).mono ?_
  rintro e w1 ⟨rfl, rfl⟩
  go_wp2_with fail
  refine (has_yes H.out HN.out HL.out).mono ?_
  rintro e w1 ⟨rfl, rfl⟩
  go_wp2_with fail
  have hbx := (Below.refl w.heap.size w).alloc (Nat.le_refl _) (.cells #[.int .i64 (n : Int), .slice A 128 c] 87)
  refine (change_any (ws := [((n : Int), x)]) (H.out.below hbx) (wrs_1 (n : Int) HB.out (fun b hb => (HM.out b hb).1)) ?_ ?_).mono ?_
  · rintro b (hb | rfl)
    · exact ⟨by simp; have := (HM.out b hb).1; omega, (HM.out b hb).2⟩
    · exact ⟨by simp, by have := H.out.map.lt; omega⟩
  · refine ⟨H.out.mok, fun r hr => ?_, ?_⟩
    · simp at hr
      subst hr
      exact ⟨okn_of H.out.n1 HN.out HL.out, by have := HN.out; simp; omega, HB.out.len⟩
    · have := H.out.mok.len
      unfold newk
      cases hf : find m n with
      | some z => simp [hf]; omega
      | none =>
        rcases HR.out with g | g
        · exact absurd hf g
        · simp [hf]; omega
  · rintro e w2 ⟨rfl, hs, hc⟩
    have HS := Lib.hid hs
    have HC := Lib.hid ((Chg.of_below hbx).tr hc)
    clear hs hc hbx
    go_wp2_with fail
    go_ret
    exact ⟨rfl, HS.out, HC.out⟩
theorem holder_any (n : Nat) (w : World) (hn : n < 32) : Calls Tryz.prog 70 #[.int .i64 n] w fun e w' => e = .returned (.int .i64 ((35 + n / 4 : Nat) : Int)) ∧ w = w' := by
  have h1 : (n : Int).tdiv 4 = ((n / 4 : Nat) : Int) := by rw [Int.tdiv_eq_ediv_of_nonneg (by omega)]; omega
  have h2 : IntKind.i64.wrap ((n : Int).tdiv 4) = ((n / 4 : Nat) : Int) := by rw [h1, IntKind.wrap_i64]; omega
  have h3 : IntKind.i64.wrap (35 + ((n / 4 : Nat) : Int)) = 35 + ((n / 4 : Nat) : Int) := by rw [IntKind.wrap_i64]; omega
  go_enter Tryz.func70, Tryz.ntmps70
  go_wp2
  go_ret
  exact ⟨F.ret1 (by omega), rfl⟩
theorem lt_sec {a b c : Nat} (h : U.ok a b c = true) : (U.sec a b c).length = 128 := (U.isSec_sec h).1
set_option maxHeartbeats 1000000 in
theorem setSuper_yes (h : Sto w0 w p d O N s X q m) (a b c : Nat) (ho : U.ok a b c = true) (hr : find m 0 ≠ none ∨ m.length < 24) :
    Calls Tryz.prog 38 #[.pointer (some ⟨p, 0, none⟩), .agg #[.int .i64 a, .int .i64 b, .int .i64 c]] w (Put1 w0 w p d O N s X q (ins 0 (U.sec a b c) m)) := by
  have H := Lib.hid h
  have HO := Lib.hid ho
  have HR := Lib.hid hr
  clear h ho hr
  go_enter Tryz.func38, Tryz.ntmps38
  go_wp2_with fail
  refine (U.encode_yes a b c _ HO.out).mono ?_
  rintro e w1 ⟨v, rfl, hm⟩
  obtain ⟨g, cap, rfl, hg1, hg2, hbt⟩ := mine_bts hm (by rw [lt_sec HO.out]; omega)
  have hb1 := ((Below.refl w.heap.size w).alloc (Nat.le_refl _) (.cells #[.int .i64 (a : Int), .int .i64 (b : Int), .int .i64 (c : Int)] 81)).trans (hm.bel.mono (by simp))
  rw [lt_sec HO.out] at hbt ⊢
  have HBT := Lib.hid hbt
  have HB1 := Lib.hid hb1
  have H1 := Lib.hid (H.out.below hb1)
  have hgq : g ≠ q := by have := H.out.map.lt; simp at hg1; omega
  clear hm hbt hb1
  go_wp2_with fail
  refine (put_yes (n := 0) H1.out (by have := H.out.n64; omega) (by unfold inLog; omega) HBT.out (fun b hb => by cases hb; exact ⟨hg2, hgq⟩) HR.out).mono ?_
  rintro e w2 ⟨rfl, hs, hc⟩
  have HS := Lib.hid hs
  have HC := Lib.hid ((Chg.of_below HB1.out).tr hc)
  clear hs hc
  go_wp2_with fail
  go_ret
  exact ⟨rfl, HS.out, HC.out⟩
theorem seats_yes (h : Sto w0 w p d O N s X q m) {n : Nat} (hn : n < 8) : Calls Tryz.prog 114 #[.pointer (some ⟨p, 0, none⟩), .int .i64 n] w fun e w' => e = .returned (.int .i64 0) ∧ w = w' := by
  have H := Lib.hid h
  clear h
  have h0 : decide ((n : Int) < 0) = false := by simp
  have h1 : decide ((8 : Int) ≤ n) = false := by simp; omega
  go_enter Tryz.func114, Tryz.ntmps114
  go_wp2_with fail
  refine (barred_ok H.out.st).mono ?_
  rintro e w1 ⟨rfl, rfl⟩
  go_wp2_with fail
  go_ret
  exact ⟨rfl, rfl⟩
/-- The sector of a seat that nobody has. -/
def seat0 : List UInt8 := A.sec 0 0 []
theorem seat0_ok : A.ok 0 0 ([] : List UInt8).length = true := by decide
theorem seat0_is : A.IsSec seat0 := A.isSec_sec seat0_ok
theorem seat0_len : seat0.length = 128 := seat0_is.1
set_option maxHeartbeats 1000000 in
theorem setSeat_zero (h : Sto w0 w p d O N s X q m) {n : Nat} (hn : n < 8) (hr : find m ((26 + n : Nat) : Int) ≠ none ∨ m.length < 24) :
    Calls Tryz.prog 67 #[.pointer (some ⟨p, 0, none⟩), .int .i64 n, .agg #[.int .i64 0, .int .i64 0, .slice none 0 0]] w (Put1 w0 w p d O N s X q (ins ((26 + n : Nat) : Int) seat0 m)) := by
  have H := Lib.hid h
  have HR := Lib.hid hr
  clear h hr
  have hbx := (Below.refl w.heap.size w).alloc (Nat.le_refl _) (.cells #[.int .i64 0, .int .i64 0, .slice none 0 0] 133)
  have H0 := Lib.hid (H.out.below hbx)
  have HBX := Lib.hid hbx
  clear hbx
  go_enter Tryz.func67, Tryz.ntmps67
  go_wp2_with fail
  refine (seats_yes H0.out hn).mono ?_
  rintro e w1 ⟨rfl, rfl⟩
  go_wp2_with fail
  refine (A.encode_yes 0 0 none 0 0 0 [] _ (F.Bts.nil_ _ _) (Nat.zero_le _) (by decide)).mono ?_
  rintro e w1 ⟨v, rfl, hm⟩
  obtain ⟨g, cap, rfl, hg1, hg2, hbt⟩ := mine_bts hm (by rw [show (A.sec 0 0 []).length = 128 from seat0_len]; omega)
  rw [show (A.sec 0 0 []).length = 128 from seat0_len] at hbt ⊢
  have HBT := Lib.hid hbt
  have HB1 := Lib.hid (HBX.out.trans (hm.bel.mono HBX.out.size))
  have H1 := Lib.hid (H0.out.below hm.bel)
  have hgq : g ≠ q := by have := H0.out.map.lt; omega
  clear hm hbt
  have hw1 : IntKind.i64.wrap (26 + (n : Int)) = ((26 + n : Nat) : Int) := by rw [IntKind.wrap_i64]; omega
  go_wp2_with fail
  refine (put_yes (n := 26 + n) H1.out (by have := H.out.n64; omega) (by unfold inLog; omega) HBT.out (fun b hb => by cases hb; exact ⟨hg2, hgq⟩) HR.out).mono ?_
  rintro e w2 ⟨rfl, hs, hc⟩
  have HS := Lib.hid hs
  have HC := Lib.hid ((Chg.of_below HB1.out).tr hc)
  clear hs hc
  go_wp2_with fail
  go_ret
  exact ⟨rfl, HS.out, HC.out⟩
/-- The first k numbers marked. -/
def markL : Nat → List UInt8
  | 0 => zeros
  | k + 1 => K.setb (markL k) k true
theorem markL_len (k : Nat) : (markL k).length = 128 := by
  induction k with
  | zero => rfl
  | succ k ih => rw [markL, K.setb_length, ih]
set_option maxHeartbeats 1000000 in
theorem fillMarks_yes (h : Sto w0 w p d O N s X q m) (hr : find m 34 ≠ none ∨ m.length < 24) :
    Calls Tryz.prog 68 #[.pointer (some ⟨p, 0, none⟩)] w (Put1 w0 w p d O N s X q (ins 34 (markL 43) m)) := by
  have H := Lib.hid h
  have HR := Lib.hid hr
  clear h hr
  have hmk := make128_all w
  go_enter Tryz.func68, Tryz.ntmps68
  go_wp2_with fail
  clear hmk
  obtain ⟨a0, a1, a2⟩ := D.box1 w (Obj.cells (bc zeros).toArray 5)
  have HA : Hid (K.Bts (w.alloc (Obj.cells (bc zeros).toArray 5)) (w.heap.size + 1) (some ⟨w.heap.size, 0, none⟩) 128 128 zeros) :=
    let f := blk_fbts a0 rfl
    ⟨f.len, f.cap, f.lim, f.nil, f.at_⟩
  have HB : Hid (Below w.heap.size w (w.alloc (Obj.cells (bc zeros).toArray 5))) := a1
  rw [← a2] at HA
  clear a0 a1 a2
  generalize w.alloc (Obj.cells (bc zeros).toArray 5) = W0 at *
  go_loopw [3, 7] (fun v i wr => ∃ k g cap : Nat, k ≤ 43 ∧ i = .int .i64 k ∧ v = .slice (some ⟨g, 0, none⟩) 128 cap ∧ Hid (K.Bts wr wr.heap.size (some ⟨g, 0, none⟩) 128 cap (markL k)) ∧ Hid (Below w.heap.size w wr)) (fun _ i _ => 43 - (intOf i).toNat)
  case atStart => exact ⟨0, _, _, Nat.zero_le _, rfl, rfl, HA, HB⟩
  case round =>
    obtain ⟨k, g, cap, hk, rfl, rfl, HK, HBW⟩ := hrel
    by_cases hlt : k < 43
    · go_wp2_with fail
      refine (K.set_yes k true HK.out (Nat.le_refl _) (by omega)).mono ?_
      rintro e w1 ⟨g1, cap1, rfl, hb1, hb2⟩
      have HK1 := Lib.hid hb1
      have HB1 := Lib.hid (HBW.out.trans (hb2.mono HBW.out.size))
      clear hb1 hb2
      go_wp2_with fail
      go_roundw
      case rel => exact ⟨k + 1, g1, cap1, by omega, by go_num, rfl, HK1, HB1⟩
      case measure => simp [intOf]; omega
    · obtain rfl : k = 43 := by omega
      rw [show ((43 : Nat) : Int) = 43 from rfl]
      have H1 := Lib.hid (H.out.below HBW.out)
      have hne := kbts_ne HK.out (by omega) H1.out.map
      have HKB := Lib.hid (kbts HK.out)
      go_wp2_with fail
      refine (put_yes (n := 34) H1.out (by have := H.out.n64; omega) (by unfold inLog; omega) HKB.out (fun b hb => by cases hb; exact ⟨hne.2, hne.1⟩) HR.out).mono ?_
      rintro e w2 ⟨rfl, hs, hc⟩
      have HS := Lib.hid hs
      have HC := Lib.hid ((Chg.of_below HBW.out).tr hc)
      clear hs hc
      go_wp2_with fail
      go_ret
      exact ⟨rfl, HS.out, HC.out⟩
end
end Go.Proofs.YtijbgdihnjnllaaGreat
