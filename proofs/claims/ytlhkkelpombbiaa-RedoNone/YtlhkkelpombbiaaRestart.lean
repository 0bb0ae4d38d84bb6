/- Restart, walked. -/
import Derived.Test.YtlhkkelpombbiaaClone
namespace Go.Proofs.Ytlhkkelpombbiaa
open Go.RowKit
set_option linter.unusedVariables false

/-- The slice '.slice A n c' holds the numbers l; they lie in a block that M knows. -/
structure Ints (w : World) (M : Nat → Prop) (A : Option Addr) (n c : Nat) (l : List Int) : Prop where
  len : l.length = n
  cap : n ≤ c
  lim : c ≤ maxLen
  at_ : 0 < n → ∃ b off, A = some ⟨b, off, none⟩ ∧ M b ∧ ∀ j, j < n → w.cell? ⟨b, off + j, none⟩ = some (.int .i64 (l[j]?.getD 0))
theorem Ints.keep {w w' : World} {M : Nat → Prop} {A : Option Addr} {n c : Nat} {l : List Int} (h : Ints w M A n c l) (hk : ∀ b, M b → w'.heap[b]? = w.heap[b]?) : Ints w' M A n c l :=
  ⟨h.len, h.cap, h.lim, fun hn => by
    obtain ⟨b, off, e, hb, hc⟩ := h.at_ hn
    exact ⟨b, off, e, hb, fun j hj => (World.cell?_of_block (a := ⟨b, off + j, none⟩) (hk b hb)).trans (hc j hj)⟩⟩
theorem keeps_take {keep : List Int} {ps : List (Nat × List UInt8)} {k : Nat} {p : Nat × List UInt8} (h : ps[k]? = some p) : keeps keep 0 (ps.take (k + 1)) = keeps keep 0 (ps.take k) ++ (if kept keep k then [p] else []) := by
  obtain ⟨hk, rfl⟩ := List.getElem?_eq_some_iff.1 h
  rw [List.take_succ_eq_append_getElem hk, keeps_snoc, List.length_take, Nat.zero_add, Nat.min_eq_left (by omega)]
theorem laid_yes {l : List (List UInt8)} {keep : List Int} {ps : List (Nat × List UInt8)} {k : Nat} {p : Nat × List UInt8} (h : ps[k]? = some p) (hk : kept keep k = true) : lay l (keeps keep 0 (ps.take (k + 1))) = (lay l (keeps keep 0 (ps.take k))).set p.1 p.2 := by
  rw [keeps_take h, if_pos hk, lay_snoc]
theorem laid_no {l : List (List UInt8)} {keep : List Int} {ps : List (Nat × List UInt8)} {k : Nat} {p : Nat × List UInt8} (h : ps[k]? = some p) (hk : kept keep k = false) : lay l (keeps keep 0 (ps.take (k + 1))) = lay l (keeps keep 0 (ps.take k)) := by
  rw [keeps_take h, hk]; simp
theorem restart_nil (A : Option Addr) (n c : Nat) (w : World) : Calls Try.prog 23 #[.pointer none, .slice A n c] w fun e w' => e = .returned (.tuple #[]) ∧ w = w' := by
  go_enter Try.func23, Try.ntmps23
  go_wp2_with fail
  exact bodyPost_ret (v := .tuple #[]) (by simp [results, Try.results23, go_sem]) rfl ⟨rfl, rfl⟩
def RS (w : World) (d bl : Nat) (L : List (List UInt8)) : Prop := w.there d 0 6 ∧ Secs w bl L ∧ d ≠ bl ∧ d < w.heap.size
def RC (w : World) (d : Nat) (V : Value) : Prop := w.cell? ⟨d, 1, none⟩ = some V
theorem RS.after {w w3 : World} {d bl : Nat} {L : List (List UInt8)} {V : Value} (h : w.cell? ⟨d, 1, none⟩ = some V ∧ RS w d bl L) (hb : Below w.heap.size w w3) : w3.cell? ⟨d, 1, none⟩ = some V ∧ RS w3 d bl L := by
  obtain ⟨h1, h2, h3, h4, h5⟩ := h
  refine ⟨(hb.cell (p := ⟨d, 1, none⟩) h5).trans h1, fun j hj => ?_, h3.keep (hb.block bl h3.lt), h4, Nat.lt_of_lt_of_le h5 hb.size⟩
  rw [hb.cell (p := ⟨d, 0 + j, none⟩) h5, hb.frozen (p := ⟨d, 0 + j, none⟩) h5]
  exact h2 j hj
theorem RS.set {w : World} {d bl : Nat} {L : List (List UInt8)} {V v0 v2 v3 v4 v5 : Value} (h : w.cell? ⟨d, 1, none⟩ = some V ∧ RS w d bl L) : (w.setCells d 0 [v0, V, v2, v3, v4, v5]).cell? ⟨d, 1, none⟩ = some V ∧ RS (w.setCells d 0 [v0, V, v2, v3, v4, v5]) d bl L := by
  obtain ⟨h1, h2, h3, h4, h5⟩ := h
  refine ⟨World.cell?_setCells_in d [v0, V, v2, v3, v4, v5] 0 w (fun j hj => (h2 j hj).1) 1 (by simp), World.there_setCells h2 _ _ _, h3.keep (heap_setCells_ne (fun e => h4 e.symm) _ _ _), h4, by rw [heap_size_setCells]; exact h5⟩
theorem RS.drewS {w : World} {d bl : Nat} {L : List (List UInt8)} {V : Value} (h1 : w.cell? ⟨d, 1, none⟩ = some V) (h : RS w d bl L) : w.drew.cell? ⟨d, 1, none⟩ = some V ∧ RS w.drew d bl L :=
  ⟨h1, h.1, h.2.1.keep rfl, h.2.2⟩
theorem RS.set6 {w : World} {d bl : Nat} {L : List (List UInt8)} {V v0 v2 v3 v4 v5 : Value} (h : w.cell? ⟨d, 1, none⟩ = some V ∧ RS w d bl L) :
    ((((((w.setCell ⟨d, 0, none⟩ v0).setCell ⟨d, 1, none⟩ V).setCell ⟨d, 2, none⟩ v2).setCell ⟨d, 3, none⟩ v3).setCell ⟨d, 4, none⟩ v4).setCell ⟨d, 5, none⟩ v5).cell? ⟨d, 1, none⟩ = some V ∧
    RS ((((((w.setCell ⟨d, 0, none⟩ v0).setCell ⟨d, 1, none⟩ V).setCell ⟨d, 2, none⟩ v2).setCell ⟨d, 3, none⟩ v3).setCell ⟨d, 4, none⟩ v4).setCell ⟨d, 5, none⟩ v5) d bl L := RS.set h
theorem RS.secs {w : World} {d bl : Nat} {L : List (List UInt8)} (h : RS w d bl L) : Secs w bl L := h.2.1
theorem st_facts {w w3 : World} {d : Nat} {vn vl vs : Value} {f : Bool} {left : Int} {dn : Bool} (h : St w d vn vl vs f left dn) (hb : Below w.drew.heap.size w.drew w3) :
    w3.cell? ⟨d, 0, none⟩ = some vn ∧ w3.cell? ⟨d, 1, none⟩ = some vl ∧ w3.cell? ⟨d, 2, none⟩ = some vs ∧ w3.cell? ⟨d, 3, none⟩ = some (.bool f) ∧ w3.cell? ⟨d, 4, none⟩ = some (.int .i64 left) ∧ w3.cell? ⟨d, 5, none⟩ = some (.bool dn) ∧
    w3.frozen? ⟨d, 0, none⟩ = false ∧ w3.frozen? ⟨d, 1, none⟩ = false ∧ w3.frozen? ⟨d, 2, none⟩ = false ∧ w3.frozen? ⟨d, 3, none⟩ = false ∧ w3.frozen? ⟨d, 4, none⟩ = false ∧ w3.frozen? ⟨d, 5, none⟩ = false := by
  have h3 : St w3 d vn vl vs f left dn := (hb.block d h.lt).trans h
  exact ⟨h3.c0, h3.c1, h3.c2, h3.c3, h3.c4, h3.c5, h3.fr 0, h3.fr 1, h3.fr 2, h3.fr 3, h3.fr 4, h3.fr 5⟩
set_option maxRecDepth 20000 in
set_option maxHeartbeats 4000000 in
theorem restart_any {w : World} {d : Nat} {O : List Nat} {N : Nat} {s : DS} {A : Option Addr} {n c : Nat} {keep : List Int} (h : Drv w d O N s) {M : Nat → Prop} (hI : Ints w M A n c keep) (hM : ∀ b, M b → b < w.heap.size ∧ b ∉ O) :
    Calls Try.prog 23 #[.pointer (some ⟨d, 0, none⟩), .slice A n c] w fun e w' => e = .returned (.tuple #[]) ∧ Did w d O N (s.restart keep) w' := by
  obtain ⟨bn, cn, bl, cl, vs, rfl, h⟩ := h
  have H := Lib.hid h
  have HK := Lib.hid hI
  have HM := Lib.hid hM
  have hlim := hI.lim
  have hcap := hI.cap
  unfold maxLen at hlim
  obtain ⟨A', c', hvs, hc1, hc2⟩ : ∃ A c, vs = .slice A s.since.length c ∧ s.since.length ≤ c ∧ c ≤ maxLen := by
    rcases h.sin.2 with ⟨rfl, h0⟩ | ⟨g, cap, cur, rfl, _, hg, hn, hm, _⟩
    · exact ⟨none, 0, by rw [h0], by omega, by decide⟩
    · exact ⟨_, _, rfl, hn, hm⟩
  unfold maxLen at hc2
  have HV := Lib.hid hvs
  have h2 := h.st.c2
  rw [hvs] at h2
  obtain ⟨hn0, hn1⟩ := And.intro h.n0 h.n1
  clear hvs h hI hM
  go_enter Try.func23, Try.ntmps23
  go_wp2_with fail
  clear h2
  go_loopw [13] (fun i wr => ∃ k : Nat, k ≤ s.since.length ∧ i = .int .i64 k ∧ Hid (DrvAt wr d N { s with lasting := lay s.lasting (keeps keep 0 (s.since.take k)) } bn cn bl cl vs) ∧ Hid (Chg (owns d bn bl vs) w wr)) (fun i _ => s.since.length - (intOf i).toNat)
  case atStart => exact ⟨0, Nat.zero_le _, rfl, H.out, Chg.refl _ _⟩
  case round =>
    obtain ⟨k, hk, rfl, HD, HC⟩ := hrel
    by_cases hlt : k < s.since.length
    · obtain ⟨p, hp⟩ : ∃ p, s.since[k]? = some p := ⟨_, List.getElem?_eq_getElem hlt⟩
      obtain ⟨g, c'', hv, _, _, hg, hr⟩ := HD.out.at_ (k := k) (p := p) hp
      have hv' : Value.slice A' s.since.length c' = .slice (some ⟨g, 0, none⟩) s.since.length c'' := by rw [← HV.out, hv]
      obtain ⟨rfl, rfl⟩ : A' = some ⟨g, 0, none⟩ ∧ c' = c'' := by simpa using hv'
      have HX := Lib.hid hp
      have HR := Lib.hid hr
      obtain ⟨hpn, hpl⟩ := H.out.ok.since p (List.mem_of_getElem? hp)
      have HL := Lib.hid hpl
      clear hp hr hv hv' hpl
      have HI : Hid ((Try.prog.info? 95).map (·.size) = some (wc p).toArray.size) := by
        show _ = _
        rw [List.size_toArray, wc_len HL.out]; exact s69
      have HS2 : Hid ((wc (0, zeros)).toArray.size = (wc p).toArray.size) := by
        show _ = _
        rw [List.size_toArray, List.size_toArray, wc_len HL.out, wc_len zeros_len]
      have HD1 : Hid (DrvAt (wr.alloc (.cells (wc p).toArray 95)) d N { s with lasting := lay s.lasting (keeps keep 0 (s.since.take k)) } bn cn bl cl vs) := HD.out.keep fun b hb => Below.heap_alloc _ _ _ (HD.out.lt b hb)
      have HC1 : Hid (Chg (owns d bn bl vs) w (wr.alloc (.cells (wc p).toArray 95))) := HC.out.alloc _
      have hz := z69
      by_cases hkn : k < n
      · obtain ⟨bk, ok, rfl, hmb, hck⟩ := HK.out.at_ (by omega)
        have hck := hck k hkn
        have hcell : (wr.alloc (.cells (wc p).toArray 95)).cell? ⟨bk, ok + k, none⟩ = some (.int .i64 (keep[k]?.getD 0)) :=
          (World.cell?_of_block (a := ⟨bk, ok + k, none⟩) (HC1.out.block bk (HM.out bk hmb).1 (HM.out bk hmb).2)).trans hck
        have HKP : Hid (kept keep k = !((keep[k]?.getD 0) == 0)) := rfl
        clear hck
        generalize keep[k]?.getD 0 = y at *
        by_cases hy : y = 0
        · subst hy
          have HN := Lib.hid (laid_no (l := s.lasting) HX.out (by rw [HKP.out]; rfl))
          go_wp2_with (first | (refine wpList_load_mid rfl 95 _ rfl g _ rfl (wc p) _ HR.out Try.underlying95 rfl (by rw [wc_len HL.out]; exact s69) ?_) | (refine wpList_store_new rfl 95 _ _ rfl wr (wc (0, zeros)).toArray (wc p).toArray rfl rfl HI.out HS2.out (all_oneCell_toArray (wc_one p)) ?_) | fail)
          go_roundw
          case rel => exact ⟨k + 1, by omega, by go_num, by rw [HN.out]; exact HD1, HC1⟩
          case measure => simp [intOf]; omega
        · have HN := Lib.hid (laid_yes (l := s.lasting) HX.out (by rw [HKP.out]; simp [hy]))
          have hy1 : (y != 0) = true := by simp [hy]
          have hy2 : (y == 0) = false := by simp [hy]
          go_wp2_with (first | (refine wpList_load_mid rfl 95 _ rfl g _ rfl (wc p) _ HR.out Try.underlying95 rfl (by rw [wc_len HL.out]; exact s69) ?_) | (refine wpList_store_new rfl 95 _ _ rfl wr (wc (0, zeros)).toArray (wc p).toArray rfl rfl HI.out HS2.out (all_oneCell_toArray (wc_one p)) ?_) | fail)
          clear hz hcell hy1 hy2 HKP
          have hnew : (wr.alloc (.cells (wc p).toArray 95)).heap[wr.heap.size]? = some (.cells (wc p).toArray 95 (0, 0)) := heap_alloc_new _ _
          have hc1 := HD1.out.st.c1
          have hca : (wr.alloc (.cells (wc p).toArray 95)).cell? ⟨wr.heap.size, 0, none⟩ = some (.int .i64 (p.1 : Int)) := by rw [cell_of hnew]; rfl
          have hrr : (wr.alloc (.cells (wc p).toArray 95)).rangeAt wr.heap.size 1 (bc p.2) := fun j v hj => by
            rw [cell_of hnew, Nat.add_comm, List.getElem?_toArray]; exact hj
          have hth : (wr.alloc (.cells (wc p).toArray 95)).there bl (p.1 * 128) 128 := HD1.out.las.there (by rw [HD1.out.ok.lasting]; exact hpn)
          have HD2 : Hid (DrvAt ((wr.alloc (.cells (wc p).toArray 95)).drew.setCells bl (p.1 * 128) (bc p.2)) d N { s with lasting := lay s.lasting (keeps keep 0 (s.since.take (k + 1))) } bn cn bl cl vs) := by
            show DrvAt _ _ _ _ _ _ _ _ _
            rw [HN.out]
            exact DrvAt.laid (w := (wr.alloc (.cells (wc p).toArray 95)).drew) (HD1.out.keep fun _ _ => rfl) hpn HL.out
          have HC2 : Hid (Chg (owns d bn bl vs) w ((wr.alloc (.cells (wc p).toArray 95)).drew.setCells bl (p.1 * 128) (bc p.2))) := HC1.out.drew.setCells (.inl (by simp [owns])) _ _
          have hlen : (bc p.2).length = 128 := by rw [bc_len, HL.out]
          have hone := bc_one p.2
          have hu := Try.underlying80
          have hi : (Try.prog.info? 80).map (·.size) = some (bc p.2).length := by rw [hlen]; exact s67
          have hdn : d ≠ bl := (ne_of_nd HD.out).2.1
          have hhn : wr.heap.size ≠ bl := by have := HD.out.las.lt; omega
          clear HI HS2 HR HX HC HC1 HD1 HD HN hnew hmb
          generalize (wr.alloc (.cells (wc p).toArray 95)) = w2 at *
          generalize wr.heap.size = h at *
          obtain ⟨n, x⟩ := p
          simp only at *
          have hk0 : (0 : Int) ≤ (n : Int) := Int.natCast_nonneg _
          have hk8 : (n : Int) < N := by omega
          generalize bc x = cs at *
          go_region_held3 (fun w' => w'.cell? ⟨d, 1, none⟩ = some (.slice (some ⟨bl, 0, none⟩) N cl) ∧ w'.cell? ⟨h, 0, none⟩ = some (.int .i64 (n : Int)) ∧ w'.rangeAt h 1 cs ∧ w'.there bl (n * 128) 128) ((go_split_ands; (try simp only [World.rangeAt_drew, World.there_drew] at *); (repeat' constructor) <;> first | assumption | (apply World.there_setCells; assumption) | (refine (World.cell?_setCells_out _ _ _ _ _ (fun e _ => absurd e hdn)).trans (by assumption)) | (refine (World.cell?_setCells_out _ _ _ _ _ (fun e _ => absurd e hhn)).trans (by assumption)) | (refine World.rangeAt_setCells_apart (by assumption) _ _ _ (Or.inl hhn)))) (fail)
          go_wp2_with fail
          go_roundw
          case rel => exact ⟨k + 1, by omega, by go_num, HD2, HC2⟩
          case measure => simp [intOf]; omega
      · have HN := Lib.hid (laid_no (l := s.lasting) (keep := keep) HX.out (by unfold kept; rw [List.getElem?_eq_none (by rw [HK.out.len]; omega)]; rfl))
        have hkn' : decide (k < n) = false := by simpa using hkn
        go_wp2_with (first | (refine wpList_load_mid rfl 95 _ rfl g _ rfl (wc p) _ HR.out Try.underlying95 rfl (by rw [wc_len HL.out]; exact s69) ?_) | (refine wpList_store_new rfl 95 _ _ rfl wr (wc (0, zeros)).toArray (wc p).toArray rfl rfl HI.out HS2.out (all_oneCell_toArray (wc_one p)) ?_) | fail)
        go_roundw
        case rel => exact ⟨k + 1, by omega, by go_num, by rw [HN.out]; exact HD1, HC1⟩
        case measure => simp [intOf]; omega
    · obtain rfl : k = s.since.length := by omega
      go_wp2_with fail
      have h1 := HD.out.st.c1
      have hS : RS wr d bl (lay s.lasting (keeps keep 0 s.since)) := ⟨there_of HD.out.st (by simp), (by have := HD.out.las; rw [List.take_length] at this; exact this), (ne_of_nd HD.out).2.1, HD.out.st.lt⟩
      have HLl : Hid ((lay s.lasting (keeps keep 0 s.since)).length = N) := by show _ = _; rw [lay_len, H.out.ok.lasting]
      generalize HLe : lay s.lasting (keeps keep 0 s.since) = L at *
      have hst := HD.out.st
      clear hlt hk hlim hcap
      go_region_held3 (fun w' => w'.cell? ⟨d, 1, none⟩ = some (.slice (some ⟨bl, 0, none⟩) N cl) ∧ RS w' d bl L) ((first | (with_reducible exact RS.drewS h1 hS) | (with_reducible exact RS.after (RS.drewS h1 hS) HQ.out.2.2.2) | (with_reducible exact RS.set6 (RS.after (RS.drewS h1 hS) HQ.out.2.2.2)) | (trace_state; fail))) (first | (go_at_call 51; (with_reducible refine (clone_any (w := wr.drew) (l := L) (Secs.keep (w := wr) (w' := wr.drew) hS.secs rfl) HLl.out hn0 hn1).mono ?_); rintro e w3 ⟨g, cap, rfl, hq⟩; have HQ := Lib.hid hq; clear hq; obtain ⟨q0, q1, q2, q3, q4, q5, f0, f1, f2, f3, f4, f5⟩ := st_facts HD.out.st HQ.out.2.2.2))
      go_end0
      refine ⟨rfl, owns d g bl (.slice none 0 0), ⟨g, cap, bl, cl, _, rfl, ?_⟩, ?_, ?_⟩
      · have hb := HQ.out.2.2.2
        have hg : wr.heap.size ≤ g := HQ.out.2.1
        obtain ⟨n1, n2, n3, n4⟩ := ne_of_nd HD.out
        have l1 := HD.out.st.lt
        have l2 := HD.out.las.lt
        have hst3 := (hb.block d HD.out.st.lt).trans HD.out.st
        have hok := H.out.ok.restart keep
        unfold DS.restart
        rw [HLe]
        unfold DS.restart at hok
        rw [HLe] at hok
        have hne : ∀ b, b ≠ d → (((((((w3.setCell ⟨d, 0, none⟩ (.slice (some ⟨g, 0, none⟩) N cap)).setCell ⟨d, 1, none⟩ (.slice (some ⟨bl, 0, none⟩) N cl)).setCell ⟨d, 2, none⟩ (.slice none 0 0)).setCell ⟨d, 3, none⟩ (.bool false)).setCell ⟨d, 4, none⟩ (.int .i64 0)) ).setCell ⟨d, 5, none⟩ (.bool false)).heap[b]? = w3.heap[b]? := fun b hbd => by
          rw [Below.heap_setCell _ _ _ _ hbd, Below.heap_setCell _ _ _ _ hbd, Below.heap_setCell _ _ _ _ hbd, Below.heap_setCell _ _ _ _ hbd, Below.heap_setCell _ _ _ _ hbd, Below.heap_setCell _ _ _ _ hbd]
        refine ⟨heap_setCell_at (heap_setCell_at (heap_setCell_at (heap_setCell_at (heap_setCell_at (heap_setCell_at hst3 _) _) _) _) _) _, HQ.out.2.2.1.keep (hne g (by omega)), (Secs.keep (w := wr) hS.secs (hb.block bl l2)).keep (hne bl (by omega)), World.ownsRow_nil _ _ _ _, hok, hn0, hn1, HQ.out.1, HD.out.c1, by simp [owns, Value.ownBlock]; omega⟩
      · have hb := HQ.out.2.2.2
        exact ((((((HC.out.tr (Chg.of_below (w := wr) ⟨hb.os, hb.tape, hb.output, hb.size, hb.block⟩)).setCell (.inl (by simp [owns])) _).setCell (.inl (by simp [owns])) _).setCell (.inl (by simp [owns])) _).setCell (.inl (by simp [owns])) _).setCell (.inl (by simp [owns])) _).setCell (.inl (by simp [owns])) _
      · intro b hb
        have hg : wr.heap.size ≤ g := HQ.out.2.1
        have := HC.out.size
        simp [owns, Value.ownBlock] at hb ⊢
        omega
end Go.Proofs.Ytlhkkelpombbiaa
