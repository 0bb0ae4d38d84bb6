/- 'Take', 'Give', 'Drop', 'changes', 'Commit' of a store at rest. -/
import Derived.Test.YtijbgdihnjnllaaGreatSLst
import Derived.Test.YtijbgdihnjnllaaGreatSNew
namespace Go.Proofs.YtijbgdihnjnllaaGreat
open Go.RowKit
set_option linter.unusedVariables false
set_option maxRecDepth 20000
section
variable {w0 w : World} {p d N q : Nat} {O : List Nat} {s : DS} {X : Secs2} {m : List Wr}
set_option maxHeartbeats 1000000 in
theorem drop_any (h : Sto w0 w p d O N s X q m) : Calls Tryz.prog 19 #[.pointer (some ⟨p, 0, none⟩)] w fun e w' => e = .returned (.tuple #[]) ∧ Sto w0 w' p d O N s X q [] ∧ Chg [q] w w' := by
  have hc1 := h.st.c1
  obtain ⟨w1, hr1, hm1, hg1⟩ := h.map.clear 0
  have HC : Hid (Chg [q] w w1) := (Chg.refl _ _).grown hg1 fun j hj => by cases hj; left; simp
  have HS := Lib.hid (h.put_ hm1 (MOk.nil N) HC.out)
  clear h hm1 hg1
  go_enter Tryz.func19, Tryz.ntmps19
  go_wp2
  go_end0
  exact ⟨rfl, HS.out, HC.out⟩
def ComP (w0 w : World) (p d : Nat) (O : List Nat) (N : Nat) (X : Secs2) (q : Nat) (e : Ending) (w' : World) : Prop := e = .returned (.int .i64 0) ∧ ∃ O' s', Sto w0 w' p d O' N s' X q [] ∧ Chg (q :: O) w w' ∧ ∀ b ∈ O', b ∈ O ∨ w.heap.size ≤ b
set_option maxHeartbeats 2000000 in
theorem commit_yes (h : Sto w0 w p d O N s X q m) : Calls Tryz.prog 17 #[.pointer (some ⟨p, 0, none⟩)] w (ComP w0 w p d O N (lay X (toW m)) q) := by
  have H := Lib.hid h
  have hc0 := h.st.c0
  have hpw := h.st.lt
  have hqw := h.map.lt
  clear h
  have HCH : Hid (∀ w', Below w.heap.size w w' → Calls Tryz.prog 49 #[.pointer (some ⟨p, 0, none⟩)] w' (ChsP w' m)) := fun w' hb => changes_any (H.out.below hb)
  have HCO : Hid (∀ w' v, Below w.heap.size w w' → (∃ ps, ps.map (·.1) = m ∧ LstAt w.heap.size w' v ps) → Calls Tryz.prog 48 #[.pointer (some ⟨d, 0, none⟩), v] w' fun e w'' => e = .returned (.int .i64 0) ∧ Onw w0 w' d O N (lay X (toW m)) w'') := by
    intro w' v hb ⟨ps, hps, hl⟩
    obtain ⟨A, c, rfl, hW⟩ := hl.wrs
    rw [hps] at hW
    refine commitO (H.out.below hb).ons hW (fun b hb' => ⟨hb'.2, fun e => ?_⟩) H.out.mok.fit
    have := H.out.ons.sit.drv.lt b e
    omega
  go_enter Tryz.func17, Tryz.ntmps17
  go_wp2_with fail
  refine (barred_ok H.out.st).mono ?_
  rintro e w1 ⟨rfl, rfl⟩
  go_upto_region 4 with fail
  have HS : Hid (∀ W, Below w.heap.size w W → W.cell? ⟨p, 0, none⟩ = some (.pointer (some ⟨d, 0, none⟩))) := fun W hb => (H.out.below hb).st.c0
  go_region_held3 (fun W => W.cell? ⟨p, 0, none⟩ = some (.pointer (some ⟨d, 0, none⟩))) (first | with_reducible exact HS.out _ (Below.refl _ _).drew | with_reducible exact HS.out _ HB1.out | with_reducible exact HS2.out)
    ((first
      | (go_at_call 49; refine (HCH.out w.drew (Below.refl _ _).drew).mono ?_; rintro e w1 ⟨v, ps, rfl, hps, hl, hb⟩; have HB1 : Hid (Below w.heap.size w w1) := (Below.refl _ w).drew.trans hb; have HL1 : Hid (LstAt w.heap.size w1 v ps) := hl; have HP1 := Lib.hid hps; clear hb hl hps)
      | (go_at_call 48; (with_reducible refine (HCO.out _ _ HB1.out ⟨_, HP1.out, HL1.out⟩).mono ?_); rintro e w2 ⟨rfl, O', s', hO, hc, hf⟩; have HO2 := Lib.hid hO; have HC2 := Lib.hid hc; have HF2 := Lib.hid hf; have HS2 : Hid (w2.cell? ⟨p, 0, none⟩ = some (.pointer (some ⟨d, 0, none⟩))) := (World.cell?_of_block (a := ⟨p, 0, none⟩) (hc.block p (Nat.lt_of_lt_of_le hpw HB1.out.size) H.out.pO)).trans (HS.out _ HB1.out); clear hO hc hf)))
  have HB2 : Hid (Chg O w w2) := (Chg.of_below HB1.out).tr HC2.out
  have HS3 : Hid (Sto w0 w2 p d O' N s' (lay X (toW m)) q m) := by
    have hsz := HB1.out.size
    refine ⟨HO2.out, H.out.st.keep (HB2.out.block p hpw H.out.pO), H.out.map.keep (HB2.out.block q hqw H.out.qO), H.out.mok, fun e => ?_, fun e => ?_, H.out.pf, H.out.qf⟩
    · rcases HF2.out p e with g | g
      · exact H.out.pO g
      · omega
    · rcases HF2.out q e with g | g
      · exact H.out.qO g
      · omega
  have hc1 := HS3.out.st.c1
  obtain ⟨w3, hr3, hm3, hg3⟩ := HS3.out.map.clear 0
  have HC3 : Hid (Chg [q] w2 w3) := (Chg.refl _ _).grown hg3 fun j hj => by cases hj; left; simp
  have HS4 := Lib.hid (HS3.out.put_ hm3 (MOk.nil N) HC3.out)
  have HF3 : Hid (∀ b ∈ O', b ∈ O ∨ w.heap.size ≤ b) := fun b hb => by
    rcases HF2.out b hb with g | g
    · exact .inl g
    · right; have := HB1.out.size; omega
  have HC4 : Hid (Chg (q :: O) w w3) := (HB2.out.mono fun b hb => .inl (by simp [hb])).trans HC3.out fun b hb => by simp at hb; left; simp [hb]
  clear hm3 hg3 hc0
  go_wp2_with fail
  go_ret
  exact ⟨rfl, O', s', HS4.out, HC4.out, HF3.out⟩
set_option maxHeartbeats 1000000 in
theorem give_yes (h : Sto w0 w p d O N s X q m) {n : Nat} (h43 : 43 ≤ n) (hn : n < N) (hr : find m 34 ≠ none ∨ m.length < 24) :
    Calls Tryz.prog 101 #[.pointer (some ⟨p, 0, none⟩), .int .i64 n] w (Put1 w0 w p d O N s X q (ins 34 (K.setb (view X m 34) n false) m)) := by
  have H := Lib.hid h
  have HR := Lib.hid hr
  have h64 := h.n64
  have hN1 := h.n1
  have HL := Lib.hid (h.view_len (n := 34) (by omega) (by unfold inLog; omega))
  have hlt : decide ((n : Int) < 43) = false := by simp; omega
  clear h hr
  go_enter Tryz.func101, Tryz.ntmps101
  go_wp2_with fail
  refine (barred_ok H.out.st).mono ?_
  rintro e w1 ⟨rfl, rfl⟩
  go_wp2_with fail
  refine (has_yes H.out hn (by unfold inLog; omega)).mono ?_
  rintro e w1 ⟨rfl, rfl⟩
  go_wp2_with fail
  refine (get_any (n := 34) H.out (by omega) (by unfold inLog; omega)).mono ?_
  rintro e w1 ⟨b, rfl, hb1, hb2, hb3⟩
  have HB := Lib.hid (kb hb2 HL.out)
  have H1 := Lib.hid (H.out.below hb3)
  have HB1 := Lib.hid hb3
  clear hb1 hb2 hb3
  go_wp2_with fail
  refine (K.set_yes n false HB.out (Nat.le_refl _) (by omega)).mono ?_
  rintro e w2 ⟨g, cap, rfl, hk, hb⟩
  have H2 := Lib.hid (H1.out.below hb)
  have hne := kbts_ne hk (by omega) H2.out.map
  have HK := Lib.hid (kbts hk)
  have HB2 := Lib.hid (HB1.out.trans (hb.mono HB1.out.size))
  clear hk hb
  go_wp2_with fail
  refine (put_yes (n := 34) H2.out (by omega) (by unfold inLog; omega) HK.out (fun b hb => by cases hb; exact ⟨hne.2, hne.1⟩) HR.out).mono ?_
  rintro e w3 ⟨rfl, hs, hc⟩
  have HS := Lib.hid hs
  have HC := Lib.hid ((Chg.of_below HB2.out).tr hc)
  clear hs hc
  go_wp2_with fail
  go_ret
  exact ⟨rfl, HS.out, HC.out⟩
def TakP (w0 w : World) (p d : Nat) (O : List Nat) (N : Nat) (s : DS) (X : Secs2) (q : Nat) (m' : List Wr) (n : Nat) (e : Ending) (w' : World) : Prop := e = .returned (.tuple #[.int .i64 n, .int .i64 0]) ∧ Sto w0 w' p d O N s X q m' ∧ Chg [q] w w'
set_option maxHeartbeats 1000000 in
theorem take_yes (h : Sto w0 w p d O N s X q m) {n : Nat} (hf : K.first (view X m 34) 43 (N - 43) = some n) (hr : Room N m [(34, K.setb (view X m 34) n true), ((n : Int), zeros)]) :
    Calls Tryz.prog 131 #[.pointer (some ⟨p, 0, none⟩)] w (TakP w0 w p d O N s X q (insAll [(34, K.setb (view X m 34) n true), ((n : Int), zeros)] m) n) := by
  have H := Lib.hid h
  have HR := Lib.hid hr
  have HF := Lib.hid hf
  have h64 := h.n64
  have hN1 := h.n1
  have HL := Lib.hid (h.view_len (n := 34) (by omega) (by unfold inLog; omega))
  obtain ⟨f1, f2, f3⟩ := K.first_some hf
  have hc0 := h.st.c0
  clear h hr hf f3
  go_enter Tryz.func131, Tryz.ntmps131
  go_wp2_with fail
  refine (get_any (n := 34) H.out (by omega) (by unfold inLog; omega)).mono ?_
  rintro e w1 ⟨b, rfl, hb1, hb2, hb3⟩
  have HB := Lib.hid (kb hb2 HL.out)
  have H1 := Lib.hid (H.out.below hb3)
  have HB1 := Lib.hid hb3
  have hbl : b < w1.heap.size := (Array.getElem?_eq_some_iff.1 hb2).1
  clear hb1 hb2 hb3 hc0
  have hc0 := H1.out.st.c0
  go_wp2_with fail
  refine (sectorsD H1.out.ons.sit.drv).mono ?_
  rintro e w2 ⟨rfl, rfl⟩
  go_wp2_with fail
  have HFI := Lib.hid (K.first_yes 43 N HB.out (Nat.le_refl _) (by omega) hN1)
  rw [HF.out, show K.fn (some n) = (n : Int) from rfl, show K.fe (some n) = 0 from rfl] at HFI
  refine HFI.out.mono ?_
  rintro e w2 ⟨rfl, hb⟩
  have H2 := Lib.hid (H1.out.below hb)
  have HBT2 := Lib.hid (HB.out.below hb)
  have HB2 := Lib.hid (HB1.out.trans (hb.mono HB1.out.size))
  have hs12 := hb.size
  clear hb hc0 HFI HB
  go_wp2_with fail
  refine (K.set_yes n true (HBT2.out.more hs12) (Nat.le_refl _) (by omega)).mono ?_
  rintro e w3 ⟨g, cap, rfl, hk, hb⟩
  have H3 := Lib.hid (H2.out.below hb)
  have hne := kbts_ne hk (by omega) H3.out.map
  have HK := Lib.hid (kbts hk)
  have HB3 := Lib.hid (HB2.out.trans (hb.mono HB2.out.size))
  clear hk hb HBT2
  have hmk := make128_all w3
  go_upto_region 11 with fail
  clear hmk
  obtain ⟨a0, a1, a2⟩ := D.box1 w3 (Obj.cells (bc zeros).toArray 5)
  have HZ : Hid (Bts (w3.alloc (Obj.cells (bc zeros).toArray 5)) (IM w3.heap.size) (some ⟨w3.heap.size, 0, none⟩) 128 128 zeros) := Own.bts ⟨5, a0⟩ rfl rfl
  have HK2 := Lib.hid (HK.out.keep (w' := w3.alloc (Obj.cells (bc zeros).toArray 5)) fun b hb => by cases hb; exact a1.block g hne.2)
  have H4 := Lib.hid (H3.out.below a1)
  have HB4 := Lib.hid (HB3.out.trans (a1.mono HB3.out.size))
  have hs4 : w3.heap.size < (w3.alloc (Obj.cells (bc zeros).toArray 5)).heap.size := by rw [a2]; omega
  have hqw3 := H3.out.map.lt
  clear a0 a1 a2 HK
  generalize w3.alloc (Obj.cells (bc zeros).toArray 5) = W at *
  go_wp2_with fail
  have hbx := (Below.refl W.heap.size W).alloc (Nat.le_refl _) (.cells #[.int .i64 34, .slice (some ⟨g, 0, none⟩) 128 cap, .int .i64 (n : Int), .slice (some ⟨w3.heap.size, 0, none⟩) 128 128] 87)
  refine (change_any (H4.out.below hbx) (wrs_2 34 (n : Int) HK2.out HZ.out (fun b hb => by cases hb; omega) (fun b hb => by cases hb; omega)) ?_ HR.out).mono ?_
  · rintro b ((hb | hb) | rfl)
    · cases hb; exact ⟨by simp; omega, hne.1⟩
    · cases hb; exact ⟨by simp; omega, by omega⟩
    · exact ⟨by simp, by have := H4.out.map.lt; omega⟩
  · rintro e w5 ⟨rfl, hs, hc⟩
    have HS := Lib.hid hs
    have HC := Lib.hid (((Chg.of_below HB4.out).tr (Chg.of_below hbx)).tr hc)
    clear hs hc hbx
    go_wp2_with fail
    go_ret2
    exact ⟨rfl, HS.out, HC.out⟩
end
end Go.Proofs.YtijbgdihnjnllaaGreat
