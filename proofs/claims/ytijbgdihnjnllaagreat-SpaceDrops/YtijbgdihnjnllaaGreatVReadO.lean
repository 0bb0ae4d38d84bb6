/- 'Read' answers bytes of its own. -/
import Derived.Test.YtijbgdihnjnllaaGreatVSim
namespace Go.Proofs.YtijbgdihnjnllaaGreat.V
open Go.RowKit
set_option linter.unusedVariables false
set_option maxRecDepth 20000
section
variable {w0 w w1 w2 w' : World} {p d N q bf nn : Nat} {O : List Nat} {s : DS} {X : Secs2} {m : List Wr} {G : Nat → Prop} {y : D.Nn} {f : Nat → Nat} {C : Nat → UInt8} {low : List Int} {Tx : List Nat}
def RdO (w : World) (l : List UInt8) (er : Int) (e : Ending) (w' : World) : Prop := ∃ A n c, e = .returned (.tuple #[.slice A n c, .int .i64 er]) ∧ T.Bts w' w'.heap.size A n c l ∧ Below w.heap.size w w' ∧ ∀ g o, A = some ⟨g, o, none⟩ → w.heap.size ≤ g
set_option maxHeartbeats 4000000 in
theorem read_own {a s' z : Nat} (ho : Calls Tryz.prog 44 #[.pointer (some ⟨p, 0, none⟩), .int .i64 nn] w (OpenR w p nn y)) (h : Sto w0 w p d O N s X q m) (hm : Mid N G (view X m) y f) (hc : Cont (view X m) f C) (hz : z ≤ 9728) (ha : a < y.s) (hy : y.s ≤ 9728) (hs : min z (y.s - a) = s') (hs0 : 0 < z) :
    Calls Tryz.prog 20 #[.pointer (some ⟨p, 0, none⟩), .int .i64 nn, .int .i64 a, .int .i64 z] w (RdO w (byt C a s') 0) := by
  have HO := Lib.hid ho
  have HS := Lib.hid h
  have HM := Lib.hid hm
  have HC := Lib.hid hc
  have HS' : Hid (a + s' ≤ 9728 ∧ 0 < s') := by show _ ∧ _; omega
  have HMN : Hid (min (z : Int) ((y.s : Int) - a) = (s' : Int)) := by show _ = _; omega
  have g1 : decide ((a : Int) < 0) = false := by simp
  have g2 : decide ((z : Int) < 0) = false := by simp
  have g3 : decide ((9728 : Int) < (z : Int)) = false := by simp; omega
  have g4 : decide ((y.s : Int) ≤ (a : Int)) = false := by simp; omega
  have hw1 : IntKind.i64.wrap ((y.s : Int) - (a : Int)) = (y.s : Int) - (a : Int) := by rw [IntKind.wrap_i64]; omega
  clear ho h hm hc
  go_enter Tryz.func20, Tryz.ntmps20
  go_wp2_with fail
  refine HO.out.mono ?_
  rintro e w1 ⟨bf, rfl, hf, hbf, hb⟩
  have H1 : Hid (Rd w0 w1 p d N q bf nn O s X m G y f C) := ⟨HS.out.below hb, hf, HM.out, HC.out⟩
  have HB1 := Lib.hid hb
  have c5 := hf.c5
  clear hf hb
  go_wp2_with fail
  rw [HMN.out]
  refine (T.parts_some a s' _ HS'.out.2 HS'.out.1).mono ?_
  rintro e w2 ⟨A, cp, rfl, hp, hb, _⟩
  have H2 := Lib.hid (H1.out.below hb)
  have HB2 := Lib.hid (HB1.out.trans (hb.mono HB1.out.size))
  have HP := Lib.hid hp
  have hw12 := HB1.out.size
  have hn76 := np76 HS'.out.1
  clear hb hp c5 g1 g2 g3 g4 hw1
  generalize hM : T.np a s' = M at *
  have HMM := Lib.hid hM
  clear hM
  go_wp2_with fail
  go_loopw [64, 13] (fun i v wr => ∃ k : Nat, k ≤ M ∧ i = .int .i64 k ∧ Hid (wr.ownsRow w2.heap.size 5 1 v (byt C a (up a s' k)).length ((byt C a (up a s' k)).map F.bv)) ∧ Hid (Below w2.heap.size w2 wr)) (fun i _ _ => M - (intOf i).toNat)
  case atStart => exact ⟨0, Nat.zero_le _, rfl, by rw [up_zero]; exact World.ownsRow_nil _ _ _ _, Below.refl _ _⟩
  case round =>
    obtain ⟨k, hk, rfl, HR, HB⟩ := hrel
    by_cases hlt : k < M
    · have hlt' : k < T.np a s' := by rw [HMM.out]; exact hlt
      have P := part hlt' HS'.out.1
      obtain ⟨b, rfl, hbl, hcc⟩ := (HP.out.below HB.out).at_ (by omega)
      obtain ⟨x0, x1, x2⟩ := hcc k hlt
      rw [pb_nb] at x0
      rw [pf_nf hlt'] at x1
      rw [pt_nt hlt'] at x2
      have HPT := Lib.hid P
      obtain ⟨B, hB⟩ : ∃ B, nb a k = B := ⟨_, rfl⟩
      obtain ⟨lo, hlo⟩ : ∃ lo, nf a k = lo := ⟨_, rfl⟩
      obtain ⟨hi, hhi⟩ : ∃ hi, nt a s' k = hi := ⟨_, rfl⟩
      have HE : Hid (B < 76 ∧ lo < hi ∧ hi ≤ 128 ∧ 128 * B + lo = a + up a s' k ∧ up a s' (k + 1) = up a s' k + (hi - lo)) := by
        rw [← hB, ← hlo, ← hhi]; exact ⟨P.b76, P.lt, P.le, P.at_, P.nxt⟩
      rw [hB] at x0
      rw [hlo] at x1
      rw [hhi] at x2
      have hlohi : lo < hi ∧ hi ≤ 128 := ⟨HE.out.2.1, HE.out.2.2.1⟩
      clear P hcc hlo hhi hB
      obtain ⟨a0, a1, a2⟩ := D.box1 wr (Obj.cells #[.int .i64 (B : Int), .int .i64 (lo : Int), .int .i64 (hi : Int)] 112)
      have HA := Lib.hid a0
      have HB3 := Lib.hid (HB.out.trans (a1.mono HB.out.size))
      have HR3 := Lib.hid (D.own_below HR.out a1)
      have hal : wr.heap.size < (wr.alloc (Obj.cells #[.int .i64 (B : Int), .int .i64 (lo : Int), .int .i64 (hi : Int)] 112)).heap.size := by rw [a2]; omega
      clear a0 a1 a2
      go_upto_region 15 with fail
      clear x0 x1 x2
      generalize wr.alloc (Obj.cells #[.int .i64 (B : Int), .int .i64 (lo : Int), .int .i64 (hi : Int)] 112) = W at *
      have y0 : W.cell? ⟨wr.heap.size, 0, none⟩ = some (.int .i64 (B : Int)) := cell_of_row _ _ 0 _ _ _ HA.out
      go_wp2_with fail
      refine (block_yes (H2.out.below HB3.out) HE.out.1).mono ?_
      rintro e w4 ⟨g, rfl, hg, hgw, hb4⟩
      have HG := Lib.hid (own_sub hg (blkL_len _ _) hlohi.1 hlohi.2)
      rw [byt_blk C hlohi.2] at HG
      have HR4 := Lib.hid (D.own_below HR3.out hb4)
      have HB4 := Lib.hid (HB3.out.trans (hb4.mono HB3.out.size))
      have HA4 := Lib.hid ((hb4.block wr.heap.size hal).trans HA.out)
      clear hg hb4 y0 hal
      obtain ⟨v', w', hr, ho', hgr⟩ := F.app_run 27 HR4.out HG.out (by rw [byt_len, byt_len]; have := HPT.out.all; have := HPT.out.nxt; have := HS'.out.1; omega) HB4.out.size
      have HRUN := Lib.hid hr
      have HO' : Hid (w'.ownsRow w2.heap.size 5 1 v' (byt C a (up a s' (k + 1))).length ((byt C a (up a s' (k + 1))).map F.bv)) := by
        have e : byt C a (up a s' k) ++ byt C (128 * B + lo) (hi - lo) = byt C a (up a s' (k + 1)) := by rw [HE.out.2.2.2.1, byt_app, HE.out.2.2.2.2]
        rw [e] at ho'
        exact ho'
      have HB5 := Lib.hid (HB4.out.grown hgr HB4.out.size fun j hj => (HR4.out.lt j hj).1)
      clear hr ho' hgr
      have y1 : w4.cell? ⟨wr.heap.size, 1, none⟩ = some (.int .i64 (lo : Int)) := cell_of_row _ _ 1 _ _ _ HA4.out
      have y2 : w4.cell? ⟨wr.heap.size, 2, none⟩ = some (.int .i64 (hi : Int)) := cell_of_row _ _ 2 _ _ _ HA4.out
      have z1 : ¬ 128 = lo := by omega
      go_wp2_with (at_builtin; refine Lib.wpList_append_run _ rfl _ _ _ _ rfl _ _ rfl rfl _ _ HRUN.out ?_)
      go_roundw
      case rel => exact ⟨k + 1, by omega, by go_num, HO', HB5⟩
      case measure => simp [intOf]; omega
    · obtain rfl : k = M := by omega
      go_wp2_with fail
      go_ret2
      have e : up a s' k = s' := by rw [← HMM.out, up_all]
      have ho := HR.out
      rw [e] at ho
      obtain ⟨A', n', c', rfl, hh⟩ := F.own_holds ho
      exact ⟨A', n', c', rfl, ⟨hh.len, hh.cap, hh.lim, hh.nil, hh.at_⟩, HB2.out.trans (HB.out.mono (by have := HB2.out.size; omega)), fun g o eg => by have h1 := (ho.lt g (by rw [eg]; rfl)).1; have h2 := HB2.out.size; omega⟩
/-- Any read that is in range. -/
theorem read_flo {y : D.Nn} (hs : Sto w0 w p d O N s X q m) (h : Fl N G (view X m) nn y f C) (hn : nn < 32) {a z s' : Nat} (hz : z ≤ 9728) (he : min z (y.s - a) = s') : Calls Tryz.prog 20 #[.pointer (some ⟨p, 0, none⟩), .int .i64 nn, .int .i64 (a : Int), .int .i64 (z : Int)] w (RdO w (byt C a s') 0) := by
  have hy := (ok_size h.ok h.kind).1
  have hnil : ∀ e w', ErrS w 0 e w' → s' = 0 → RdO w (byt C a s') 0 e w' := fun e w' ⟨h1, h2⟩ h0 => ⟨none, 0, 0, h1, by rw [h0]; exact T.Bts.nil_ _ _, h2, fun g o e => by cases e⟩
  by_cases h1 : y.s ≤ a
  · exact (read_end (h.open_ hs hn) (by omega) ⟨by omega, by omega⟩).mono fun e w' hq => hnil e w' hq (by omega)
  · by_cases h2 : z = 0
    · subst h2
      exact (read_none (h.open_ hs hn) ⟨by omega, by omega⟩ hy).mono fun e w' hq => hnil e w' hq (by omega)
    · exact read_own (h.open_ hs hn) hs h.mid h.con hz (by omega) hy he (by omega)
/-- What is not the drive's stays. -/
theorem bts_apart {B g o : Nat} {A : Option Addr} {n c : Nat} {l : List UInt8} (h : T.Bts w B A n c l) (hB : B ≤ w.heap.size) (hc : Chg O w w') (ho : ∀ g o, A = some ⟨g, o, none⟩ → g ∉ O) : T.Bts w' B A n c l :=
  ⟨h.len, h.cap, h.lim, h.nil, fun hn => by
    obtain ⟨b, off, e, hb, hcl⟩ := h.at_ hn
    refine ⟨b, off, e, hb, fun j hj => ?_⟩
    rw [← hcl j hj]
    have := hc.block b (by omega) (ho b off e)
    simp only [World.cell?, this]⟩
end
end Go.Proofs.YtijbgdihnjnllaaGreat.V
