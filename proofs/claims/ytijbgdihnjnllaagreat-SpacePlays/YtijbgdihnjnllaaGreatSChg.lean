/- 'change': sectors that will be others. -/
import Derived.Test.YtijbgdihnjnllaaGreatSChgA
namespace Go.Proofs.YtijbgdihnjnllaaGreat
open Go.RowKit
set_option linter.unusedVariables false
set_option maxRecDepth 20000
theorem Sto.keep_ {w0 w w' : World} {p d N q : Nat} {O : List Nat} {s : DS} {X : Secs2} {m : List Wr} (h : Sto w0 w p d O N s X q m) (he : ∀ b, b ∈ O ∨ b = p ∨ b = q → w'.heap[b]? = w.heap[b]?) (hb : Below w0.heap.size w w') : Sto w0 w' p d O N s X q m :=
  ⟨⟨⟨h.ons.sit.drv.keep fun b hb => he b (.inl hb), h.ons.sit.fresh, h.ons.sit.bel.trans hb⟩, h.ons.on, h.ons.len, h.ons.free⟩, h.st.keep (he p (.inr (.inl rfl))), h.map.keep (he q (.inr (.inr rfl))), h.mok, h.pO, h.qO, h.pf, h.qf⟩
theorem Sto.grown {w0 w w' : World} {p d N q g : Nat} {O : List Nat} {s : DS} {X : Secs2} {m : List Wr} (h : Sto w0 w p d O N s X q m) (hg : w.grownBy w' (some g)) (hO : g ∉ O) (hp : g ≠ p) (hq : g ≠ q) (h0 : w0.heap.size ≤ g) : Sto w0 w' p d O N s X q m :=
  h.keep_ (fun b hb => hg.block b (by
    rcases hb with hb | rfl | rfl
    · exact h.ons.sit.drv.lt b hb
    · exact h.st.lt
    · exact h.map.lt) (fun e => by
      cases e
      rcases hb with hb | e | e
      · exact hO hb
      · exact hp e
      · exact hq e)) ((Below.refl _ w).grown hg h.ons.sit.bel.size (fun j hj => by cases hj; exact h0))
theorem Sto.put_ {w0 w w' : World} {p d N q : Nat} {O : List Nat} {s : DS} {X : Secs2} {m m' : List Wr} (h : Sto w0 w p d O N s X q m) (hm : MapAt w' q m') (hk : MOk N m') (hc : Chg [q] w w') : Sto w0 w' p d O N s X q m' := by
  have hbel : Below w0.heap.size w w' := hc.below h.ons.sit.bel.size fun b hb => by simp at hb; rw [hb]; exact h.qf
  refine ⟨⟨⟨h.ons.sit.drv.keep fun b hb => hc.block b (h.ons.sit.drv.lt b hb) (fun e => ?_), h.ons.sit.fresh, h.ons.sit.bel.trans hbel⟩, h.ons.on, h.ons.len, h.ons.free⟩, h.st.keep (hc.block p h.st.lt (by simp; exact h.pq)), hm, hk, h.pO, h.qO, h.pf, h.qf⟩
  simp at e
  exact h.qO (e ▸ hb)
set_option maxHeartbeats 2000000 in
theorem change_any {w0 w : World} {p d N q : Nat} {O : List Nat} {s : DS} {X : Secs2} {m ws : List Wr} {M : Nat → Prop} {A : Option Addr} {n c : Nat} (h : Sto w0 w p d O N s X q m) (hW : Wrs w M A n c ws) (hM : ∀ b, M b → b < w.heap.size ∧ b ≠ q) (hr : Room N m ws) :
    Calls Tryz.prog 43 #[.pointer (some ⟨p, 0, none⟩), .slice A n c] w fun e w' => e = .returned (.int .i64 0) ∧ Sto w0 w' p d O N s X q (insAll ws m) ∧ Chg [q] w w' := by
  have H := Lib.hid h
  have HW := Lib.hid hW
  have HM := Lib.hid hM
  have HR := Lib.hid hr
  have hlim := hW.lim
  have hcap := hW.cap
  have hl24 := hr.len
  unfold maxLen at hlim
  have hc1 := h.st.c1
  have hlen := h.map.len 3
  have hN1 := h.n1
  clear h hW hM hr
  go_enter Tryz.func43, Tryz.ntmps43
  go_wp2_with fail
  clear hlen hc1
  go_loopw [5, 20] (fun v i wr => ∃ k : Nat, k ≤ n ∧ i = .int .i64 k ∧ v = .int .i64 ((m.length + newk m (ws.take k) : Nat) : Int) ∧ Hid (Below w.heap.size w wr)) (fun _ i _ => n - (intOf i).toNat)
  case atStart => exact ⟨0, Nat.zero_le _, rfl, rfl, Below.refl _ _⟩
  case round =>
    obtain ⟨k, hk, rfl, rfl, HB⟩ := hrel
    have hnl := newk_le m ws k
    by_cases hlt : k < n
    · obtain ⟨x, hx⟩ : ∃ x, ws[k]? = some x := ⟨_, List.getElem?_eq_getElem (by rw [HW.out.len]; exact hlt)⟩
      obtain ⟨b, off, rfl, hb, hc0, A', n', c', hc1, hBt⟩ := (HW.out.keep (w' := wr) fun b hb => HB.out.block b (HM.out b hb).1).get hx
      have HX := Lib.hid hx
      have HN := Lib.hid (newk_take (m := m) hx)
      obtain ⟨g1, g2, g3⟩ := HR.out.all x (List.mem_of_getElem? hx)
      have g4 := (okn_iff.1 g1).1
      obtain ⟨y, l⟩ := x
      simp only at hc0 hBt g2 g4 HN
      clear hx hBt
      go_upto_region 5 with fail
      obtain ⟨a0, a1, a2⟩ := D.box1 wr (Obj.cells #[.int .i64 y, .slice A' n' c'] 87)
      have HB1 := Lib.hid (HB.out.trans (a1.mono HB.out.size))
      have HD0 := Lib.hid a0
      have hc0' : (wr.alloc (Obj.cells #[.int .i64 y, .slice A' n' c'] 87)).cell? ⟨wr.heap.size, 0, none⟩ = some (.int .i64 y) := cell_of_row _ _ 0 _ _ _ a0
      have hbl : wr.heap.size < (wr.alloc (Obj.cells #[.int .i64 y, .slice A' n' c'] 87)).heap.size := by omega
      clear a0 a1 a2 hc0 hc1
      generalize wr.alloc (Obj.cells #[.int .i64 y, .slice A' n' c'] 87) = W1 at *
      generalize wr.heap.size = G at *
      have H1 := Lib.hid (H.out.below HB1.out)
      obtain ⟨o, ho⟩ : ∃ o, find m y = o := ⟨_, rfl⟩
      have HS : Hid (∀ W, Below W1.heap.size W1 W → W.cell? ⟨p, 1, none⟩ = some (.map (some q)) ∧ W.cell? ⟨G, 0, none⟩ = some (.int .i64 y) ∧ (Instr.lookup 102 (.map (some q)) (.int .i64 y) true).run Tryz.prog W = .ok (.tuple #[.agg (bc (o.getD zeros)).toArray, .bool o.isSome]) W) := by
        intro W hb
        have hh := H1.out.below hb
        refine ⟨hh.st.c1, ?_, ?_⟩
        · rw [hb.cell (p := ⟨G, 0, none⟩) (by exact hbl)]; exact hc0'
        · rw [← ho]; exact hh.map.look (by omega) (by omega)
      have HL : Hid ((o.getD zeros).length = 128) := by
        show _ = _
        rw [← ho]
        cases hf : find m y with
        | none => rfl
        | some z =>
          unfold find at hf
          rw [Option.map_eq_some_iff] at hf
          obtain ⟨a, ha, rfl⟩ := hf
          exact (HR.out.mok.all a (List.mem_of_find?_eq_some ha)).2.2
      have hi : (Tryz.prog.info? 144).map (·.size) = some (bc (o.getD zeros)).toArray.toList.length := by rw [s90]; simp [bc_len, HL.out]
      have hone : ∀ v ∈ (bc (o.getD zeros)).toArray.toList, v.oneCell' = true := by simpa using bc_one (o.getD zeros)
      have hcl : (bc (o.getD zeros)).toArray.toList.length = 128 := by simp [bc_len, HL.out]
      generalize (bc (o.getD zeros)).toArray = C at *
      have hz : ∀ w, (zeroValue 144).run Tryz.prog w = .ok (.agg (bc zeros).toArray) w := zero90
      obtain ⟨a0, a1, a2⟩ := D.box1 W1 (Obj.cells (bc zeros).toArray 144)
      have hth : (W1.alloc (.cells (bc zeros).toArray 144)).drew.there W1.heap.size 0 C.toList.length := by
        rw [hcl]
        exact there_of (w := (W1.alloc (.cells (bc zeros).toArray 144)).drew) a0 (by simp [bc_len]; decide)
      have HA1 := Lib.hid a1
      clear a0 a1 a2 HD0 hcl
      generalize (bc zeros).toArray = Z at *
      obtain ⟨hs1, hs2, hs3⟩ := HS.out W1 (Below.refl _ _)
      go_region_held3 (fun W => W.cell? ⟨p, 1, none⟩ = some (.map (some q)) ∧ W.cell? ⟨G, 0, none⟩ = some (.int .i64 y) ∧ (Instr.lookup 102 (.map (some q)) (.int .i64 y) true).run Tryz.prog W = .ok (.tuple #[.agg C, .bool o.isSome]) W)
        (first | with_reducible exact HS.out _ (Below.refl _ _).drew | with_reducible exact HS.out _ HA1.out.drew | with_reducible exact HS.out _ HA1.out | with_reducible exact HS.out _ (D.below_setCells (Nat.le_refl _) _ _ HA1.out.drew)) (fail)
      all_goals
        have HB2 := Lib.hid (HB1.out.trans ((D.below_setCells (Nat.le_refl _) C.toList 0 HA1.out.drew).mono HB1.out.size))
        clear hth hs1 hs2 hs3 HS HA1 hone hi
        generalize (W1.alloc (Obj.cells Z 144)).drew.setCells W1.heap.size 0 C.toList = W2 at *
        have hnl2 := newk_le m ws (k + 1)
        have hn1 := HN.out
        rw [ho] at hn1
        cases o with
        | none =>
          simp only [Option.isSome_none, Option.isNone_none, if_true] at *
          go_wp2_with fail
          go_roundw
          case rel => exact ⟨k + 1, by omega, by go_num, by rw [hn1]; go_num, HB2⟩
          case measure => simp [intOf]; omega
        | some z =>
          simp only [Option.isSome_some, Option.isNone_some] at *
          go_wp2_with fail
          go_roundw
          case rel => exact ⟨k + 1, by omega, by go_num, by rw [hn1]; go_num, HB2⟩
          case measure => simp [intOf]; omega
    · obtain rfl : n = k := by omega
      rw [List.take_of_length_le (by rw [HW.out.len]; exact Nat.le_refl _)]
      have h24 : decide (24 < (m.length : Int) + (newk m ws : Int)) = false := by simp; omega
      have HC0 : Hid (Chg [q] w wr) := Chg.of_below HB.out
      have H0 := Lib.hid (H.out.below HB.out)
      go_wp2_with fail
      clear h24 hnl
      have HNL := Lib.hid HW.out.len
      clear HB
      generalize wr = V0 at *
      go_loopw [43] (fun i wr => ∃ k : Nat, k ≤ n ∧ i = .int .i64 k ∧ Hid (Sto w0 wr p d O N s X q (insAll (ws.take k) m)) ∧ Hid (Chg [q] w wr)) (fun i _ => n - (intOf i).toNat)
      case atStart => exact ⟨0, Nat.zero_le _, rfl, H0, HC0⟩
      case round =>
        obtain ⟨k, hk, rfl, HS, HC⟩ := hrel
        by_cases hlt : k < n
        · obtain ⟨x, hx⟩ : ∃ x, ws[k]? = some x := ⟨_, List.getElem?_eq_getElem (by rw [HNL.out]; exact hlt)⟩
          obtain ⟨b, off, rfl, hb, hc0, A', n', c', hc1, hBt⟩ := (HW.out.keep (w' := wr) fun b hb => HC.out.block b (HM.out b hb).1 (by simp; exact (HM.out b hb).2)).get hx
          have HX := Lib.hid hx
          obtain ⟨g1, g2, g3⟩ := HR.out.all x (List.mem_of_getElem? hx)
          have g4 := (okn_iff.1 g1).1
          have HIN := Lib.hid (insAll_take (m := m) hx)
          have HRM := Lib.hid (HR.out.all_ k)
          have HRM1 := Lib.hid (HR.out.all_ (k + 1)).mok
          obtain ⟨y, l⟩ := x
          simp only at hc0 hBt g2 g3 g4 HIN
          obtain rfl : n' = 128 := by rw [← hBt.len]; exact g3
          obtain ⟨b', off', rfl, hb', hrg⟩ := hBt.at_ (by omega)
          have hcap' := hBt.cap
          have hlim' := hBt.lim
          unfold maxLen at hlim'
          have hbq : b' ≠ q := (HM.out b' hb').2
          have hbl' : b' < wr.heap.size := Nat.lt_of_lt_of_le (HM.out b' hb').1 HC.out.size
          clear hx hBt
          have hz : ∀ w, (zeroValue 144).run Tryz.prog w = .ok (.agg (bc zeros).toArray) w := zero90
          go_upto_region 15 with fail
          obtain ⟨a0, a1, a2, a3⟩ := D.box2 wr (Obj.cells #[.int .i64 y, .slice (some ⟨b', off', none⟩) 128 c'] 87) (Obj.cells (bc zeros).toArray 144)
          have hd0 : ((wr.alloc (Obj.cells #[.int .i64 y, .slice (some ⟨b', off', none⟩) 128 c'] 87)).alloc (Obj.cells (bc zeros).toArray 144)).cell? ⟨wr.heap.size, 0, none⟩ = some (.int .i64 y) := cell_of_row _ _ 0 _ _ _ a0
          have hd1 : ((wr.alloc (Obj.cells #[.int .i64 y, .slice (some ⟨b', off', none⟩) 128 c'] 87)).alloc (Obj.cells (bc zeros).toArray 144)).cell? ⟨wr.heap.size, 1, none⟩ = some (.slice (some ⟨b', off', none⟩) 128 c') := cell_of_row _ _ 1 _ _ _ a0
          have HA1 := Lib.hid a1
          have HBW := Lib.hid a2
          have HRG := Lib.hid (rangeAt_of_heap hrg (a2.block b' hbl'))
          have hsz : wr.heap.size + 2 ≤ ((wr.alloc (Obj.cells #[.int .i64 y, .slice (some ⟨b', off', none⟩) 128 c'] 87)).alloc (Obj.cells (bc zeros).toArray 144)).heap.size := by omega
          clear a0 a1 a2 a3 hc0 hc1 hrg hz
          generalize (wr.alloc (Obj.cells #[.int .i64 y, .slice (some ⟨b', off', none⟩) 128 c'] 87)).alloc (Obj.cells (bc zeros).toArray 144) = W1 at *
          have HGE := Lib.hid (Nat.le_refl wr.heap.size)
          have HS1 := Lib.hid (HS.out.below HBW.out)
          have HC1 : Hid (Chg [q] w W1) := HC.out.tr (Chg.of_below HBW.out)
          generalize hG : wr.heap.size = G at *
          have hqG : q < G := by rw [← hG]; exact HS.out.map.lt
          have hpG : p < G := by rw [← hG]; exact HS.out.st.lt
          have hwG : w.heap.size ≤ G := by rw [← hG]; exact HC.out.size
          have HOG : Hid (∀ b ∈ O, b < G) := by intro b hb; rw [← hG]; exact HS.out.ons.sit.drv.lt b hb
          clear hG HBW HGE HS HC
          obtain ⟨w2, hr2, hh2, hg2, hz2⟩ := D.copy_run (w := W1.drew) (dT := 27) (ty := 3) (elem := 5) Tryz.underlying27 (by kernel_rfl) (g := G + 1) (off := 0) (dLen := 128) (dCap := 128) (sLen := 128) (sCap := c') (ad := ⟨b', off', none⟩) (L := bc zeros) (cs := bc l) (t := 144)
            HA1.out (by rw [bc_len, g3]; rfl) (fun j v hj => by rw [Addr.add_mid]; exact HRG.out j v hj) (by rw [bc_len, bc_len, g3]; decide) (bc_one l)
          rw [show (goInt (bc l).length) = .int .i64 128 by rw [bc_len, g3]; rfl] at hr2
          rw [splice_all (by rw [bc_len, bc_len, g3]; rfl)] at hh2
          have HH2 := Lib.hid hh2
          have HG2 := Lib.hid hg2
          clear hh2 hg2 hz2 HA1 HRG
          go_region
          clear hr2
          have hw0 : w0.heap.size ≤ G := Nat.le_trans H.out.ons.sit.bel.size hwG
          have HS2 := Lib.hid (HS1.out.below (w' := W1.drew) (Below.refl _ _).drew |>.grown HG2.out (fun e => by have := HOG.out _ e; omega) (by omega) (by omega) (by omega))
          have HC2 := Lib.hid (HC1.out.drew.grown HG2.out fun j hj => by cases hj; right; omega)
          have hd0' : w2.cell? ⟨G, 0, none⟩ = some (.int .i64 y) := by
            rw [World.cell?_of_block (a := ⟨G, 0, none⟩) (HG2.out.block G (by show G < W1.heap.size; omega) (by simp))]; exact hd0
          have HIR : Hid (w2.rangeAt (G + 1) 0 (bc l)) := fun j v hj => by rw [cell_of HH2.out, List.getElem?_toArray, Nat.zero_add]; exact hj
          obtain ⟨w3, hr3, hm3, hg3⟩ := MapAt.put (w := w2.drew) HS2.out.map (k := y) (by omega) (by omega) (by have := HRM.out.mok.len; omega) l
          unfold sv at hr3
          have HM3 := Lib.hid hm3
          have HG3 := Lib.hid hg3
          have hcl : (bc l).length = 128 := by rw [bc_len, g3]
          have hone := bc_one l
          have hu := Tryz.underlying144
          have hi : (Tryz.prog.info? 144).map (·.size) = some (bc l).length := by rw [hcl]; exact s90
          have hp1 := HS2.out.st.c1
          have hsz2 : W1.heap.size ≤ w2.heap.size := HG2.out.size
          have HKA : Hid (w2.drew.cell? ⟨p, 1, none⟩ = some (.map (some q)) ∧ w2.drew.cell? ⟨G, 0, none⟩ = some (.int .i64 y) ∧ w2.drew.rangeAt (G + 1) 0 (bc l)) := ⟨hp1, hd0', HIR.out⟩
          have HKB : Hid (w3.cell? ⟨p, 1, none⟩ = some (.map (some q)) ∧ w3.cell? ⟨G, 0, none⟩ = some (.int .i64 y) ∧ w3.rangeAt (G + 1) 0 (bc l)) := by
            refine ⟨?_, ?_, rangeAt_of_heap (w := w2.drew) HIR.out (HG3.out.block (G + 1) (by show G + 1 < w2.heap.size; omega) (by simp; omega))⟩
            · rw [World.cell?_of_block (a := ⟨p, 1, none⟩) (HG3.out.block p (by show p < w2.heap.size; omega) (by simp; exact HS2.out.pq))]; exact hp1
            · rw [World.cell?_of_block (a := ⟨G, 0, none⟩) (HG3.out.block G (by show G < w2.heap.size; omega) (by simp; omega))]; exact hd0'
          have HIR2 := HIR.out
          clear hm3 hg3 hd0 hd1 HS1 HC1 HG2 HH2
          generalize bc l = cs at *
          go_upto_region 16 with fail
          go_region_held3 (fun W => W.cell? ⟨p, 1, none⟩ = some (.map (some q)) ∧ W.cell? ⟨G, 0, none⟩ = some (.int .i64 y) ∧ W.rangeAt (G + 1) 0 cs)
            (first | with_reducible exact HKA.out | with_reducible exact HKB.out) (fail)
          have HC3 : Hid (Chg [q] w w3) := HC2.out.drew.grown HG3.out fun j hj => by cases hj; left; simp
          have HS3 : Hid (Sto w0 w3 p d O N s X q (insAll (ws.take (k + 1)) m)) :=
            (HS2.out.below (w' := w2.drew) (Below.refl _ _).drew).put_ (by rw [HIN.out]; exact HM3.out) HRM1.out ((Chg.refl _ _).grown HG3.out fun j hj => by cases hj; left; simp)
          clear hr3 HKA HKB HIR2 HIR hp1 hd0' hone hi hu
          go_wp2_with fail
          go_roundw
          case rel => exact ⟨_, _, _, ⟨k + 1, by omega, rfl, HS3⟩, rfl, rfl, by go_num⟩
          case measure => simp [intOf]; omega
        · obtain rfl : n = k := by omega
          rw [List.take_of_length_le (by rw [HNL.out]; exact Nat.le_refl _)] at HS
          go_wp2_with fail
          go_ret
          exact ⟨rfl, HS.out, HC.out⟩
end Go.Proofs.YtijbgdihnjnllaaGreat
