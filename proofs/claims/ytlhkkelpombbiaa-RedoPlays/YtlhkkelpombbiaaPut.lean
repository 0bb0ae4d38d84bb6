/- Put, walked. -/
import Derived.Test.YtlhkkelpombbiaaPutA
namespace Go.Proofs.Ytlhkkelpombbiaa
open Go.RowKit
set_option linter.unusedVariables false

set_option maxRecDepth 100000 in
set_option maxRecDepth 20000 in
set_option maxHeartbeats 4000000 in
theorem put_go {w : World} {d N bn cn bl cl : Nat} {s : DS} {vs : Value} {M : Nat → Prop} {A : Option Addr} {n c : Nat} {ws : List Wr} (h : DrvAt w d N s bn cn bl cl vs) (hd : s.down = false)
    (hW : Wrs w M A n c ws) (hM : ∀ b, M b → b < w.heap.size ∧ b ∉ owns d bn bl vs) (hf : fitE N ws = 0) (hb : (s.since.length + n) * 136 ≤ 140737488355328) :
    Calls Try.prog 36 #[.pointer (some ⟨d, 0, none⟩), .slice A n c] w fun e w' => e = .returned (.int .i64 (s.putGo ws).1) ∧ Did w d (owns d bn bl vs) N (s.putGo ws).2 w' := by
  have H := Lib.hid h
  have HW := Lib.hid hW
  have HM := Lib.hid hM
  have HF := Lib.hid hf
  have HFX := Lib.hid (fitE_zero hf)
  have hst := h.st
  rw [hd] at hst
  have HS := Lib.hid hst
  have HD0 := Lib.hid hd
  have hlim := hW.lim
  have hcap := hW.cap
  unfold maxLen at hlim
  obtain ⟨hn0, hn1⟩ := And.intro h.n0 h.n1
  have HBY := Lib.hid hb
  clear h hst hd hW hM hf hb
  go_enter Try.func36, Try.ntmps36
  go_wp2_with fail
  refine (ready_any HS.out).mono ?_
  rintro e w' ⟨rfl, rfl⟩
  go_wp2_with fail
  refine (fits_any HS.out HW.out (fun b hb => (HM.out b hb).1)).mono ?_
  rintro e w0 ⟨rfl, hb0⟩
  rw [HF.out]
  have HB0 := Lib.hid hb0
  clear hb0
  go_wp2_with fail
  go_loopw [23] (fun i wr => ∃ k sk vsk, k ≤ n ∧ i = .int .i64 (k : Int) ∧ Hid (PutR w d N bn cn bl cl (owns d bn bl vs) s ws k wr sk vsk)) (fun i _ => n - (intOf i).toNat)
  case atStart => exact ⟨0, s, vs, Nat.zero_le _, rfl, H.out.keep (fun b hb => HB0.out.block b (H.out.lt b hb)), HD0.out, rfl, rfl, Chg.of_below HB0.out, fun g hg => .inl (by simp [owns, hg])⟩
  case round =>
    obtain ⟨k, sk, vsk, hk, rfl, HR⟩ := hrel
    by_cases hlt : k < n
    · obtain ⟨x, hx⟩ : ∃ x, ws[k]? = some x := ⟨_, List.getElem?_eq_getElem (by rw [HW.out.len]; exact hlt)⟩
      have hkeep : ∀ b, M b → wr.heap[b]? = w.heap[b]? := fun b hb => HR.out.2.2.2.2.1.block b (HM.out b hb).1 (HM.out b hb).2
      obtain ⟨b, off, rfl, hmb, hc0, A', n', c', hc1, hB⟩ := (HW.out.keep hkeep).get hx
      obtain ⟨⟨m, hm, hmN⟩, hl⟩ := HFX.out x (List.mem_of_getElem? hx)
      have HX := Lib.hid hx
      obtain ⟨y, l⟩ := x
      simp only at hc0 hB hm hl
      subst hm
      obtain rfl : n' = 128 := by rw [← hB.len, hl]
      have HBT := Lib.hid hB
      have HL := Lib.hid hl
      have hcc := hB.cap
      have hcl := hB.lim
      unfold maxLen at hcl
      have HD1 : Hid (DrvAt (wr.alloc (.cells #[.int .i64 (m : Int), .slice A' 128 c'] 56)) d N sk bn cn bl cl vsk) := HR.out.1.keep fun b hb => Below.heap_alloc _ _ _ (HR.out.1.lt b hb)
      have HC1 : Hid (Chg (owns d bn bl vs) w (wr.alloc (.cells #[.int .i64 (m : Int), .slice A' 128 c'] 56))) := HR.out.2.2.2.2.1.alloc _
      have HN1 : Hid ((wr.alloc (.cells #[.int .i64 (m : Int), .slice A' 128 c'] 56)).heap[wr.heap.size]? = some (.cells #[.int .i64 (m : Int), .slice A' 128 c'] 56 (0, 0))) := heap_alloc_new _ _
      have HNO : Hid (wr.heap.size ∉ owns d bn bl vsk) := fun hm => absurd (HR.out.1.lt _ hm) (by omega)
      clear hx hB hl hkeep
      go_wp2_with fail
      generalize (wr.alloc (.cells #[.int .i64 (m : Int), .slice A' 128 c'] 56)) = w1 at *
      generalize hh1 : wr.heap.size = h1 at *
      have HH1 := Lib.hid hh1
      clear hc0 hc1 hh1
      refine (spend_any HD1.out HR.out.2.1).mono ?_
      rintro e w2 ⟨rfl, hq⟩
      have HQ := Lib.hid hq
      clear hq
      cases hp : sk.pow with
      | false =>
        have HE : Hid (s.putGo ws = (11, sk.spend)) := by
          show _ = _
          rw [HR.out.2.2.1, drop_at HX.out]
          simp [DS.putGo, hp]
        clear hp
        go_wp2_with fail
        go_ret
        rw [HE.out]
        refine ⟨rfl, owns d bn bl vsk, ⟨bn, cn, bl, cl, vsk, rfl, HQ.out.1⟩, HC1.out.trans HQ.out.2 (fun b hb => .inl (by simp at hb; simp [owns, hb])), fun b hb => ?_⟩
        simp only [owns, List.mem_cons, Option.mem_toList] at hb
        rcases hb with rfl | rfl | rfl | hb
        · exact .inl (by simp [owns])
        · exact .inl (by simp [owns])
        · exact .inl (by simp [owns])
        · exact HR.out.2.2.2.2.2 b hb
      | true =>
        have HE : Hid (s.putGo ws = (sk.spend.put1 m l).putGo (ws.drop (k + 1))) := by
          show _ = _
          rw [HR.out.2.2.1, drop_at HX.out]
          simp [DS.putGo, hp]
        have HDN := Lib.hid (spend_down hp HR.out.2.1)
        clear hp
        have hne1 : h1 ∉ [d] := fun e => HNO.out (by simp at e; simp [owns, e])
        have HN2 : Hid (w2.heap[h1]? = some (.cells #[.int .i64 (m : Int), .slice A' 128 c'] 56 (0, 0))) := (HQ.out.2.block h1 (Array.getElem?_eq_some_iff.1 HN1.out).1 hne1).trans HN1.out
        have hc0 : w2.cell? ⟨h1, 0, none⟩ = some (.int .i64 (m : Int)) := cell_of HN2.out 0
        have hz := z69
        have HI : Hid ((Try.prog.info? 95).map (·.size) = some (wc (m, zeros)).toArray.size) := by
          show _ = _
          rw [List.size_toArray, wc_len zeros_len]; exact s69
        have HS2 : Hid ((wc (0, zeros)).toArray.size = (wc (m, zeros)).toArray.size) := by
          show _ = _
          rw [List.size_toArray, List.size_toArray, wc_len zeros_len, wc_len zeros_len]
        go_wp2_with (first | (refine wpList_build_run rfl 95 _ rfl (.int .i64 (m : Int)) rfl _ (build69 m _) ?_) | (refine wpList_store_new rfl 95 _ _ rfl w2 (wc (0, zeros)).toArray (wc (m, zeros)).toArray rfl rfl HI.out HS2.out (all_oneCell_toArray (wc_one (m, zeros))) ?_) | fail)
        clear hz hc0 HI HS2
        have HN3 : Hid ((w2.alloc (.cells (wc (m, zeros)).toArray 95)).heap[w2.heap.size]? = some (.cells (wc (m, zeros)).toArray 95 (0, 0))) := heap_alloc_new _ _
        have l1 : h1 < w2.heap.size := (Array.getElem?_eq_some_iff.1 HN2.out).1
        have HW3 : Hid ((w2.alloc (.cells (wc (m, zeros)).toArray 95)).heap[h1]? = some (.cells #[.int .i64 (m : Int), .slice A' 128 c'] 56 (0, 0))) := (Below.heap_alloc _ _ _ l1).trans HN2.out
        have HD3 : Hid (DrvAt (w2.alloc (.cells (wc (m, zeros)).toArray 95)) d N sk.spend bn cn bl cl vsk) := HQ.out.1.keep fun b hb => Below.heap_alloc _ _ _ (HQ.out.1.lt b hb)
        have HC3 : Hid (Chg (owns d bn bl vs) w (w2.alloc (.cells (wc (m, zeros)).toArray 95))) := (HC1.out.trans HQ.out.2 (fun b hb => .inl (by simp at hb; simp [owns, hb]))).alloc _
        have HNO2 : Hid (w2.heap.size ∉ owns d bn bl vsk) := fun hm => absurd (HQ.out.1.lt _ hm) (by omega)
        have hw2 : w.heap.size ≤ w2.heap.size := by have := HC1.out.size; have := HQ.out.2.size; omega
        obtain ⟨b', off', rfl, hmb', hrng⟩ := HBT.out.at_ (by omega)
        have HRG : Hid ((w2.alloc (.cells (wc (m, zeros)).toArray 95)).rangeAt b' off' (bc l)) := rangeAt_of_heap hrng (by
          rw [HC3.out.block b' (HM.out b' hmb').1 (HM.out b' hmb').2, HR.out.2.2.2.2.1.block b' (HM.out b' hmb').1 (HM.out b' hmb').2])
        have hb2 : b' ≠ w2.heap.size := by have := (HM.out b' hmb').1; omega
        clear hrng HN1 HN2 HQ HC1 HD1 hne1
        generalize (w2.alloc (.cells (wc (m, zeros)).toArray 95)) = w3 at *
        generalize w2.heap.size = h2 at *
        have hcw := cell_of HW3.out 1
        have hcw : w3.cell? ⟨h1, 1, none⟩ = some (.slice (some ⟨b', off', none⟩) 128 c') := hcw
        have HT3 := Lib.hid (there_of (o := 1) (n := 128) HN3.out (by rw [List.size_toArray, wc_len zeros_len]; omega))
        have hcp : (Builtin.copy_ #[23, 23] 3 #[.slice (some ⟨h2, 1, none⟩) 128 128, .slice (some ⟨b', off', none⟩) 128 c']).run Try.prog w3.drew = .ok (goInt (bc l).length) (w3.drew.setCells h2 1 (bc l)) :=
          run_copy_cells w3.drew 23 23 3 5 h2 1 128 128 ⟨b', off', none⟩ 128 c' (bc l) Try.underlying23 (by kernel_rfl) (by rw [bc_len, HL.out]; rfl) (fun j v hj => by rw [Addr.add_mid]; exact HRG.out j v hj)
            (fun j hj => (HT3.out j (by rw [bc_len, HL.out] at hj; exact hj)).1) (fun j hj => (HT3.out j (by rw [bc_len, HL.out] at hj; exact hj)).2) (bc_one l)
        have HCP := Lib.hid hcp
        have hhn : h1 ≠ h2 := by omega
        clear hcp
        go_region_held3 (fun w' => w'.cell? ⟨h1, 1, none⟩ = some (.slice (some ⟨b', off', none⟩) 128 c')) (first | assumption | (refine (World.cell?_setCells_out _ _ _ _ _ (fun e _ => absurd e hhn)).trans (by assumption))) ((refine step_copy_run (by rfl) _ _ 23 23 (by rfl) _ _ _ _ (by rfl) (by rfl) HCP.out ?_))
        have HN4 : Hid ((w3.drew.setCells h2 1 (bc l)).heap[h2]? = some (.cells (wc (m, l)).toArray 95 (0, 0))) := by
          show _ = _
          rw [heap_setCells_at (w := w3.drew) (bc l) 1 HN3.out, setAll_wc m l HL.out]
        have HD4 : Hid (DrvAt (w3.drew.setCells h2 1 (bc l)) d N sk.spend bn cn bl cl vsk) := HD3.out.keep fun b hb => by
          rw [heap_setCells_ne (fun e => HNO2.out (by rw [← e]; exact hb))]; rfl
        have HC4 : Hid (Chg (owns d bn bl vs) w (w3.drew.setCells h2 1 (bc l))) := HC3.out.drew.setCells (.inr hw2) _ _
        clear hcw HT3 HCP HRG HN3 HW3 HD3 HC3 hmb' hb2 hhn
        generalize (w3.drew.setCells h2 1 (bc l)) = w4 at *
        go_wp2_with fail
        have hc0 := HD4.out.st.c0
        have hca : w4.cell? ⟨h2, 0, none⟩ = some (.int .i64 (m : Int)) := cell_of HN4.out 0
        have hrr : w4.rangeAt h2 1 (bc l) := fun j v hj => by
          rw [cell_of HN4.out, Nat.add_comm, List.getElem?_toArray]; exact hj
        have hth : w4.there bn (m * 128) 128 := HD4.out.now.there (by rw [HD4.out.ok.now]; exact hmN)
        have hdn : d ≠ bn := (ne_of_nd HD4.out).1
        have hhn : h2 ≠ bn := fun e => HNO2.out (by simp [owns, e])
        have HD5 : Hid (DrvAt (w4.drew.setCells bn (m * 128) (bc l)) d N { sk.spend with now := sk.spend.now.set m l } bn cn bl cl vsk) :=
          DrvAt.wrote (w := w4.drew) (HD4.out.keep fun _ _ => rfl) hmN HL.out
        have HC5 : Hid (Chg (owns d bn bl vs) w (w4.drew.setCells bn (m * 128) (bc l))) := HC4.out.drew.setCells (.inl (by simp [owns])) _ _
        have HN5 : Hid ((w4.drew.setCells bn (m * 128) (bc l)).heap[h2]? = some (.cells (wc (m, l)).toArray 95 (0, 0))) := by
          show _ = _
          rw [heap_setCells_ne hhn]; exact HN4.out
        have hlen : (bc l).length = 128 := by rw [bc_len, HL.out]
        have hone := bc_one l
        have hu := Try.underlying80
        have hi : (Try.prog.info? 80).map (·.size) = some (bc l).length := by rw [hlen]; exact s67
        have hk0 : (0 : Int) ≤ (m : Int) := Int.natCast_nonneg _
        have hk8 : (m : Int) < N := by omega
        clear HN4 HD4 HC4
        generalize bc l = cs at *
        go_region_held3 (fun w' => w'.cell? ⟨d, 0, none⟩ = some (.slice (some ⟨bn, 0, none⟩) N cn) ∧ w'.cell? ⟨h2, 0, none⟩ = some (.int .i64 (m : Int)) ∧ w'.rangeAt h2 1 cs ∧ w'.there bn (m * 128) 128) ((go_split_ands; (try simp only [World.rangeAt_drew, World.there_drew] at *); (repeat' constructor) <;> first | assumption | (apply World.there_setCells; assumption) | (refine (World.cell?_setCells_out _ _ _ _ _ (fun e _ => absurd e hdn)).trans (by assumption)) | (refine (World.cell?_setCells_out _ _ _ _ _ (fun e _ => absurd e hhn)).trans (by assumption)) | (refine World.rangeAt_setCells_apart (by assumption) _ _ _ (Or.inl hhn)))) (fail)
        clear hc0 hca hrr hth hlen hone hu hi hdn hhn
        generalize (w4.drew.setCells bn (m * 128) cs) = w5 at *
        go_wp2_with fail
        have hsl : sk.spend.since.length = s.since.length + k := by rw [spend_since]; exact HR.out.2.2.2.1
        obtain ⟨g, cap, w7, hap⟩ := app_one (w := w5.drew) (ownsRow_keep (w := w5) HD5.out.sin fun _ _ => rfl) (wc (m, l)) (wc_len HL.out) (wc_one _) (by
          have := HBY.out
          show (sk.spend.since.length + 1) * 136 ≤ _
          rw [hsl]; omega)
        have HAP := Lib.hid hap
        have h2c := HD5.out.st.c2
        have hrw : w5.rangeAt h2 0 (wc (m, l)) := fun j v hj => by
          rw [cell_of HN5.out, Nat.zero_add, List.getElem?_toArray]; exact hj
        obtain ⟨A5, c5, hv5, _, _⟩ := HD5.out.slice
        have HV5 := Lib.hid hv5
        rw [hv5] at h2c
        have hlen : (wc (m, l)).length = 129 := wc_len HL.out
        have hone := wc_one (m, l)
        have hu := Try.underlying95
        have hi : (Try.prog.info? 95).map (·.size) = some (wc (m, l)).length := by rw [hlen]; exact s69
        have hbs := buildS (wc (m, l)) hlen
        obtain ⟨hrun, hown, hgrow, hat, hgl⟩ := hap
        rw [hv5] at hrun
        have HRUN := Lib.hid hrun
        have hdl : d < w5.heap.size := HD5.out.st.lt
        have hnd := ne_of_nd HD5.out
        have hvd : some d ≠ vsk.ownBlock := fun e => absurd rfl (hnd.2.2.2 d e.symm).1
        have hvn : some bn ≠ vsk.ownBlock := fun e => absurd rfl (hnd.2.2.2 bn e.symm).2.1
        have hvl : some bl ≠ vsk.ownBlock := fun e => absurd rfl (hnd.2.2.2 bl e.symm).2.2
        have hv2 : some h2 ≠ vsk.ownBlock := fun e => HNO2.out (by simp [owns, ← e])
        have hfar : ∀ q, q < w5.heap.size → some q ≠ vsk.ownBlock → w7.heap[q]? = w5.heap[q]? := fun q hq hn =>
          (hgrow.block q (by have : (w5.drew.alloc (.cells (wc (m, l)).toArray 95)).heap.size = w5.heap.size + 1 := by simp
                             omega) hn).trans (Below.heap_alloc w5.drew _ q hq)
        have h2l : h2 < w5.heap.size := (Array.getElem?_eq_some_iff.1 HN5.out).1
        have HR7 : Hid (w7.rangeAt h2 0 (wc (m, l))) := rangeAt_of_heap hrw (hfar h2 h2l hv2)
        have hst7 := HD5.out.st.keep (hfar d hdl hvd)
        have hc7 := hst7.c2
        have hf7 := hst7.fr 2
        have hd2 : h2 ≠ d := fun e => HNO2.out (by simp [owns, e])
        have hg5 : vsk.ownBlock = some g ∨ g = w5.heap.size + 1 := hat
        have hgd : g ≠ d ∧ g ≠ bn ∧ g ≠ bl := by
          rcases hg5 with e | e
          · have := hnd.2.2.2 g e; omega
          · have := HD5.out.now.lt; have := HD5.out.las.lt; omega
        have HD8 : Hid (DrvAt (w7.setCell ⟨d, 2, none⟩ (.slice (some ⟨g, 0, none⟩) (sk.spend.since.length + 1) cap)) d N (sk.spend.put1 m l) bn cn bl cl (.slice (some ⟨g, 0, none⟩) (sk.spend.since.length + 1) cap)) := by
          have hok := HD5.out.ok
          have hne : ∀ q, q ≠ d → (w7.setCell ⟨d, 2, none⟩ (.slice (some ⟨g, 0, none⟩) (sk.spend.since.length + 1) cap)).heap[q]? = w7.heap[q]? := fun q hq => Below.heap_setCell _ _ _ _ hq
          refine ⟨heap_setCell_at hst7 _, (HD5.out.now.keep (hfar bn HD5.out.now.lt hvn)).keep (hne bn (fun e => hnd.1 e.symm)), (HD5.out.las.keep (hfar bl HD5.out.las.lt hvl)).keep (hne bl (fun e => hnd.2.1 e.symm)), ?_, ?_, hn0, hn1, HD5.out.c0, HD5.out.c1, ?_⟩
          · have := ownsRow_keep (w' := w7.setCell ⟨d, 2, none⟩ (.slice (some ⟨g, 0, none⟩) (sk.spend.since.length + 1) cap)) hown (fun q hq => hne q (by simp [Value.ownBlock] at hq; omega))
            simpa [DS.put1] using this
          · exact ⟨by simpa [DS.put1] using hok.now, hok.lasting, fun p hp => by
              simp only [DS.put1, List.mem_append, List.mem_singleton] at hp
              rcases hp with hp | rfl
              · exact hok.since p hp
              · exact ⟨hmN, HL.out⟩, hok.lo, hok.hi, hok.fuse⟩
          · simp [owns, Value.ownBlock]; omega
        have HC8 : Hid (Chg (owns d bn bl vs) w (w7.setCell ⟨d, 2, none⟩ (.slice (some ⟨g, 0, none⟩) (sk.spend.since.length + 1) cap))) :=
          ((HC5.out.drew.alloc _).grown hgrow HR.out.2.2.2.2.2).setCell (.inl (by simp [owns])) _
        have HG8 : Hid (g ∈ owns d bn bl vs ∨ w.heap.size ≤ g) := by
          rcases hg5 with e | e
          · exact HR.out.2.2.2.2.2 g e
          · right; have := HC5.out.size; omega
        have HLEN : Hid ((sk.spend.put1 m l).since.length = s.since.length + (k + 1)) := by
          show _ = _
          simp only [DS.put1, List.length_append, List.length_singleton]
          rw [hsl]; omega
        have HDN8 : Hid ((sk.spend.put1 m l).down = false) := HDN.out
        have hc7' : w7.cell? ⟨d, 2, none⟩ = some (.slice A5 sk.spend.since.length c5) := by rw [hc7, HV5.out]
        clear hv5 hsl hown hgrow hat hgl hrun hvd hvn hvl hv2 hfar hst7 hc7 hnd hg5 hgd HX hmb HAP HV5 HD5 HC5 HN5
        generalize wc (m, l) = cs2 at *
        have h2c' : w5.cell? ⟨d, 2, none⟩ = some (.slice A5 sk.spend.since.length c5) := h2c
        clear h2c
        have HRUN' : Hid ((Builtin.append_ #[82, 82] 82 #[.slice A5 sk.spend.since.length c5, .slice (some ⟨w5.drew.heap.size, 0, none⟩) 1 1]).run Try.prog (w5.drew.alloc (.cells cs2.toArray 95)) = .ok (.slice (some ⟨g, 0, none⟩) (sk.spend.since.length + 1) cap) w7) := HRUN
        clear HRUN
        refine wp_region_noPanic ?_
        refine wp_region_held_drew (S := fun w' => w'.rangeAt h2 0 cs2) (by kernel_rfl) (by simpa using hrw) (fun hHeld => ?_)
        refine wpAnyH_take (i := 0) (oi := ⟨some 47, .move (.tmp 0), 37, "drive.go:72", #[], none⟩) (v := .pointer (some ⟨d, 0, none⟩)) rfl (by kernel_rfl) (by kernel_rfl) (by kernel_rfl) (fun _ _ _ h => h) (Or.inl ⟨by rfl, fun w hw => by go_simp⟩) (by assumption) ?_
        simp only [Act.put, List.setIfInBounds_toArray, List.set_cons_zero, List.set_cons_succ]
        refine wpAnyH_take (i := 1) (oi := ⟨some 48, .move (.tmp 0), 37, "drive.go:72", #[], none⟩) (v := .pointer (some ⟨d, 0, none⟩)) rfl (by kernel_rfl) (by kernel_rfl) (by kernel_rfl) (fun _ _ _ h => h) (Or.inl ⟨by rfl, fun w hw => by go_simp⟩) (by assumption) ?_
        simp only [Act.put, List.setIfInBounds_toArray, List.set_cons_zero, List.set_cons_succ]
        refine wpAnyH_take (i := 2) (oi := ⟨some 49, .nilCheck (.tmp 48), 0, "drive.go:72", #[⟨1, .data⟩], none⟩) (v := .pointer (some ⟨d, 0, none⟩)) rfl (by kernel_rfl) (by kernel_rfl) (by kernel_rfl) (fun _ _ _ h => h) (Or.inl ⟨by rfl, fun w hw => by go_simp⟩) (by assumption) ?_
        simp only [Act.put, List.setIfInBounds_toArray, List.set_cons_zero, List.set_cons_succ]
        refine wpAnyH_take (i := 3) (oi := ⟨some 50, .fieldAddr 84 (.tmp 49) 2, 0, "drive.go:72", #[⟨2, .data⟩], none⟩) (v := .pointer (some ⟨d, 2, none⟩)) rfl (by kernel_rfl) (by kernel_rfl) (by kernel_rfl) (fun _ _ _ h => h) (Or.inl ⟨by rfl, fun w hw => by go_simp⟩) (by assumption) ?_
        simp only [Act.put, List.setIfInBounds_toArray, List.set_cons_zero, List.set_cons_succ]
        refine wpAnyH_take (i := 5) (oi := ⟨some 52, .load 95 (.tmp 9), 95, "drive.go:72", #[], none⟩) (v := .agg cs2.toArray) rfl (by kernel_rfl) (by kernel_rfl) (by kernel_rfl) (fun _ _ _ h => h) (yieldsIf_load_mid (by rfl) 95 _ rfl h2 0 rfl cs2 _ (fun w hw => hw) Try.underlying95 rfl hi) (by assumption) ?_
        simp only [Act.put, List.setIfInBounds_toArray, List.set_cons_zero, List.set_cons_succ]
        refine wpAnyH_ready (rs := [4, 6]) (by kernel_rfl) (by simp) ?_
        refine AllReadyH.cons (o := ⟨some 51, .load 82 (.tmp 50), 82, "drive.go:72", #[⟨3, .data⟩], none⟩) rfl (fun K hK => ?_) (AllReadyH.cons (o := ⟨some 53, .buildSlice 82 1 #[(0, .tmp 52)], 82, "drive.go:72", #[⟨5, .data⟩], none⟩) rfl (fun K hK => ?_) AllReadyH.nil)
        · skip
          rw [if_pos (by rfl)]
          refine wp_load60 (.tmp 50) rfl ⟨d, 2, none⟩ rfl (.slice A5 sk.spend.since.length c5) (by first | exact h2c' | (rw [World.cell?_alloc_lt _ _ _ hdl]; exact h2c')) ?_
          simp only [Act.put, List.setIfInBounds_toArray, List.set_cons_zero, List.set_cons_succ]
          refine hK.out _ _ hHeld (fun hHeld => ?_)
          clear hK K
          refine wpAnyH_ready (rs := [6]) (by kernel_rfl) (by simp) ?_
          refine AllReadyH.cons (o := ⟨some 53, .buildSlice 82 1 #[(0, .tmp 52)], 82, "drive.go:72", #[⟨5, .data⟩], none⟩) rfl (fun K hK => ?_) AllReadyH.nil
          refine step_buildSlice_run rfl 82 1 (.tmp 52) rfl (.agg cs2.toArray) rfl _ _ (hbs w5.drew) ?_
          simp only [Act.put, List.setIfInBounds_toArray, List.set_cons_zero, List.set_cons_succ]
          refine hK.out _ _ (World.rangeAt_alloc hHeld _) (fun hHeld => ?_)
          clear hK K
          refine wpAnyH_ready (rs := [7]) (by kernel_rfl) (by simp) ?_
          refine AllReadyH.cons (o := ⟨some 54, .call { callee := .builtin .append, args := #[.tmp 51, .tmp 53], argTypes := #[82, 82] }, 82, "drive.go:72", #[⟨4, .data⟩, ⟨6, .data⟩], none⟩) rfl (fun K hK => ?_) AllReadyH.nil
          refine step_append_run rfl _ _ 82 rfl _ _ _ _ rfl rfl HRUN'.out ?_
          simp only [Act.put, List.setIfInBounds_toArray, List.set_cons_zero, List.set_cons_succ]
          refine hK.out _ _ HR7.out (fun hHeld => ?_)
          clear hK K
          refine wpAnyH_take (i := 8) (oi := ⟨some 55, .nilCheck (.tmp 47), 0, "drive.go:72", #[⟨0, .data⟩, ⟨0, .phase⟩, ⟨1, .phase⟩, ⟨2, .phase⟩, ⟨3, .phase⟩, ⟨4, .phase⟩, ⟨5, .phase⟩, ⟨6, .phase⟩, ⟨7, .phase⟩], none⟩) (v := .pointer (some ⟨d, 0, none⟩)) rfl (by kernel_rfl) (by kernel_rfl) (by kernel_rfl) (fun _ _ _ h => h) (Or.inl ⟨by rfl, fun w hw => by go_simp⟩) (by assumption) ?_
          simp only [Act.put, List.setIfInBounds_toArray, List.set_cons_zero, List.set_cons_succ]
          refine wpAnyH_take (i := 9) (oi := ⟨some 56, .fieldAddr 84 (.tmp 55) 2, 0, "drive.go:72", #[⟨8, .data⟩, ⟨0, .phase⟩, ⟨1, .phase⟩, ⟨2, .phase⟩, ⟨3, .phase⟩, ⟨4, .phase⟩, ⟨5, .phase⟩, ⟨6, .phase⟩, ⟨7, .phase⟩], none⟩) (v := .pointer (some ⟨d, 2, none⟩)) rfl (by kernel_rfl) (by kernel_rfl) (by kernel_rfl) (fun _ _ _ h => h) (Or.inl ⟨by rfl, fun w hw => by go_simp⟩) (by assumption) ?_
          simp only [Act.put, List.setIfInBounds_toArray, List.set_cons_zero, List.set_cons_succ]
          refine wpAnyH_ready (rs := [10]) (by kernel_rfl) (by simp) ?_
          refine AllReadyH.cons (o := ⟨none, .store 82 (.tmp 56) (.tmp 54), 0, "drive.go:72", #[⟨9, .data⟩, ⟨7, .data⟩, ⟨7, .chain⟩, ⟨0, .phase⟩, ⟨1, .phase⟩, ⟨2, .phase⟩, ⟨3, .phase⟩, ⟨4, .phase⟩, ⟨5, .phase⟩, ⟨6, .phase⟩, ⟨7, .phase⟩], none⟩) rfl (fun K hK => ?_) AllReadyH.nil
          rw [if_pos (by rfl)]
          refine wp_store60 (.tmp 56) (.tmp 54) rfl ⟨d, 2, none⟩ _ rfl rfl _ hc7' hf7 ⟨_, _, _, rfl⟩ ?_
          simp only [Act.put]
          refine hK.out _ _ (rangeAt_of_heap HR7.out (Below.heap_setCell _ _ _ _ hd2)) (fun hHeld => ?_)
          clear hK K
          refine wpAnyH_done (by kernel_rfl) ?_ _
          refine NoPanic.normal ?_
          go_wp2_with fail
          go_roundw
          case rel => exact ⟨k + 1, _, _, by omega, by go_num, HD8.out, HDN8.out, HE.out, HLEN.out, HC8.out, fun q hq => by simp [Value.ownBlock] at hq; subst hq; exact HG8.out⟩
          case measure => simp [intOf]; omega
        · skip
          refine step_buildSlice_run rfl 82 1 (.tmp 52) rfl (.agg cs2.toArray) rfl _ _ (hbs w5.drew) ?_
          simp only [Act.put, List.setIfInBounds_toArray, List.set_cons_zero, List.set_cons_succ]
          refine hK.out _ _ (World.rangeAt_alloc hHeld _) (fun hHeld => ?_)
          clear hK K
          refine wpAnyH_ready (rs := [4]) (by kernel_rfl) (by simp) ?_
          refine AllReadyH.cons (o := ⟨some 51, .load 82 (.tmp 50), 82, "drive.go:72", #[⟨3, .data⟩], none⟩) rfl (fun K hK => ?_) AllReadyH.nil
          rw [if_pos (by rfl)]
          refine wp_load60 (.tmp 50) rfl ⟨d, 2, none⟩ rfl (.slice A5 sk.spend.since.length c5) (by first | exact h2c' | (rw [World.cell?_alloc_lt _ _ _ hdl]; exact h2c')) ?_
          simp only [Act.put, List.setIfInBounds_toArray, List.set_cons_zero, List.set_cons_succ]
          refine hK.out _ _ hHeld (fun hHeld => ?_)
          clear hK K
          refine wpAnyH_ready (rs := [7]) (by kernel_rfl) (by simp) ?_
          refine AllReadyH.cons (o := ⟨some 54, .call { callee := .builtin .append, args := #[.tmp 51, .tmp 53], argTypes := #[82, 82] }, 82, "drive.go:72", #[⟨4, .data⟩, ⟨6, .data⟩], none⟩) rfl (fun K hK => ?_) AllReadyH.nil
          refine step_append_run rfl _ _ 82 rfl _ _ _ _ rfl rfl HRUN'.out ?_
          simp only [Act.put, List.setIfInBounds_toArray, List.set_cons_zero, List.set_cons_succ]
          refine hK.out _ _ HR7.out (fun hHeld => ?_)
          clear hK K
          refine wpAnyH_take (i := 8) (oi := ⟨some 55, .nilCheck (.tmp 47), 0, "drive.go:72", #[⟨0, .data⟩, ⟨0, .phase⟩, ⟨1, .phase⟩, ⟨2, .phase⟩, ⟨3, .phase⟩, ⟨4, .phase⟩, ⟨5, .phase⟩, ⟨6, .phase⟩, ⟨7, .phase⟩], none⟩) (v := .pointer (some ⟨d, 0, none⟩)) rfl (by kernel_rfl) (by kernel_rfl) (by kernel_rfl) (fun _ _ _ h => h) (Or.inl ⟨by rfl, fun w hw => by go_simp⟩) (by assumption) ?_
          simp only [Act.put, List.setIfInBounds_toArray, List.set_cons_zero, List.set_cons_succ]
          refine wpAnyH_take (i := 9) (oi := ⟨some 56, .fieldAddr 84 (.tmp 55) 2, 0, "drive.go:72", #[⟨8, .data⟩, ⟨0, .phase⟩, ⟨1, .phase⟩, ⟨2, .phase⟩, ⟨3, .phase⟩, ⟨4, .phase⟩, ⟨5, .phase⟩, ⟨6, .phase⟩, ⟨7, .phase⟩], none⟩) (v := .pointer (some ⟨d, 2, none⟩)) rfl (by kernel_rfl) (by kernel_rfl) (by kernel_rfl) (fun _ _ _ h => h) (Or.inl ⟨by rfl, fun w hw => by go_simp⟩) (by assumption) ?_
          simp only [Act.put, List.setIfInBounds_toArray, List.set_cons_zero, List.set_cons_succ]
          refine wpAnyH_ready (rs := [10]) (by kernel_rfl) (by simp) ?_
          refine AllReadyH.cons (o := ⟨none, .store 82 (.tmp 56) (.tmp 54), 0, "drive.go:72", #[⟨9, .data⟩, ⟨7, .data⟩, ⟨7, .chain⟩, ⟨0, .phase⟩, ⟨1, .phase⟩, ⟨2, .phase⟩, ⟨3, .phase⟩, ⟨4, .phase⟩, ⟨5, .phase⟩, ⟨6, .phase⟩, ⟨7, .phase⟩], none⟩) rfl (fun K hK => ?_) AllReadyH.nil
          rw [if_pos (by rfl)]
          refine wp_store60 (.tmp 56) (.tmp 54) rfl ⟨d, 2, none⟩ _ rfl rfl _ hc7' hf7 ⟨_, _, _, rfl⟩ ?_
          simp only [Act.put]
          refine hK.out _ _ (rangeAt_of_heap HR7.out (Below.heap_setCell _ _ _ _ hd2)) (fun hHeld => ?_)
          clear hK K
          refine wpAnyH_done (by kernel_rfl) ?_ _
          refine NoPanic.normal ?_
          go_wp2_with fail
          go_roundw
          case rel => exact ⟨k + 1, _, _, by omega, by go_num, HD8.out, HDN8.out, HE.out, HLEN.out, HC8.out, fun q hq => by simp [Value.ownBlock] at hq; subst hq; exact HG8.out⟩
          case measure => simp [intOf]; omega
    · obtain rfl : k = n := by omega
      have HE : Hid (s.putGo ws = (0, sk)) := by
        show _ = _
        rw [HR.out.2.2.1, List.drop_of_length_le (by rw [HW.out.len]; omega)]
        rfl
      go_wp2_with fail
      go_ret
      rw [HE.out]
      refine ⟨rfl, owns d bn bl vsk, ⟨bn, cn, bl, cl, vsk, rfl, HR.out.1⟩, HR.out.2.2.2.2.1, fun b hb => ?_⟩
      simp only [owns, List.mem_cons, Option.mem_toList] at hb
      rcases hb with rfl | rfl | rfl | hb
      · exact .inl (by simp [owns])
      · exact .inl (by simp [owns])
      · exact .inl (by simp [owns])
      · exact HR.out.2.2.2.2.2 b hb
theorem put_nil {A : Option Addr} {n c : Nat} (w : World) : Calls Try.prog 36 #[.pointer none, .slice A n c] w fun e w' => e = .returned (.int .i64 1) ∧ w = w' := by
  go_enter Try.func36, Try.ntmps36
  go_wp2_with fail
  refine (ready_nil _).mono ?_
  rintro e w' ⟨rfl, rfl⟩
  go_wp2_with fail
  go_ret
  exact ⟨rfl, rfl⟩
theorem put_down {w : World} {d : Nat} {vn vl vs : Value} {f : Bool} {left : Int} {A : Option Addr} {n c : Nat} (h : St w d vn vl vs f left true) :
    Calls Try.prog 36 #[.pointer (some ⟨d, 0, none⟩), .slice A n c] w fun e w' => e = .returned (.int .i64 11) ∧ w = w' := by
  have HS := Lib.hid h
  clear h
  go_enter Try.func36, Try.ntmps36
  go_wp2_with fail
  refine (ready_any HS.out).mono ?_
  rintro e w' ⟨rfl, rfl⟩
  go_wp2_with fail
  go_ret
  exact ⟨rfl, rfl⟩
theorem put_bad {w : World} {d N cn : Nat} {A0 : Option Addr} {vl vs : Value} {f : Bool} {left : Int} (hst : St w d (.slice A0 N cn) vl vs f left false)
    {M : Nat → Prop} {A : Option Addr} {n c : Nat} {ws : List Wr} (hW : Wrs w M A n c ws) (hM : ∀ b, M b → b < w.heap.size) (hf : fitE N ws ≠ 0) :
    Calls Try.prog 36 #[.pointer (some ⟨d, 0, none⟩), .slice A n c] w fun e w' => e = .returned (.int .i64 (fitE N ws)) ∧ Below w.heap.size w w' := by
  have HS := Lib.hid hst
  have HW := Lib.hid hW
  have HM := Lib.hid hM
  have h1 : (fitE N ws != 0) = true := by simpa using hf
  have h2 : (fitE N ws == 0) = false := by simpa using hf
  clear hst hW hM hf
  generalize hx : fitE N ws = x at *
  have HX := Lib.hid hx
  clear hx
  go_enter Try.func36, Try.ntmps36
  go_wp2_with fail
  refine (ready_any HS.out).mono ?_
  rintro e w' ⟨rfl, rfl⟩
  go_wp2_with fail
  refine (fits_any HS.out HW.out HM.out).mono ?_
  rintro e w0 ⟨rfl, hb0⟩
  rw [HX.out]
  have HB0 := Lib.hid hb0
  clear hb0
  go_wp2_with fail
  go_ret
  exact ⟨rfl, HB0.out⟩
theorem put_any {w : World} {d : Nat} {O : List Nat} {N : Nat} {s : DS} {M : Nat → Prop} {A : Option Addr} {n c : Nat} {ws : List Wr} (h : Drv w d O N s)
    (hW : Wrs w M A n c ws) (hM : ∀ b, M b → b < w.heap.size ∧ b ∉ O) (hb : (s.since.length + n) * 136 ≤ 140737488355328) :
    Calls Try.prog 36 #[.pointer (some ⟨d, 0, none⟩), .slice A n c] w fun e w' => e = .returned (.int .i64 (s.put N ws).1) ∧ Did w d O N (s.put N ws).2 w' := by
  obtain ⟨bn, cn, bl, cl, vs, rfl, h⟩ := h
  unfold DS.put
  cases hd : s.down with
  | true =>
    have hst := h.st
    rw [hd] at hst
    refine (put_down hst).mono ?_
    rintro e w' ⟨rfl, rfl⟩
    exact ⟨rfl, _, ⟨bn, cn, bl, cl, vs, rfl, h⟩, Chg.refl _ _, fun b hb => .inl hb⟩
  | false =>
    by_cases hf : fitE N ws = 0
    · simp only [hf, Bool.false_eq_true, if_false, if_true]
      exact put_go h hd hW hM hf hb
    · simp only [hf, Bool.false_eq_true, if_false]
      have hst := h.st
      rw [hd] at hst
      refine (put_bad hst hW (fun b hb => (hM b hb).1) hf).mono ?_
      rintro e w' ⟨rfl, hbw⟩
      exact ⟨rfl, _, ⟨bn, cn, bl, cl, vs, rfl, h.keep fun b hb => hbw.block b (h.lt b hb)⟩, Chg.of_below hbw, fun b hb => .inl hb⟩
end Go.Proofs.Ytlhkkelpombbiaa
