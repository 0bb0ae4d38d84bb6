/- Flush, walked. -/
import Derived.Test.YtlhkkelpombbiaaImage
namespace Go.Proofs.Ytlhkkelpombbiaa
open Go.RowKit
set_option linter.unusedVariables false

/-- What a call has done: the drive is in the state s'. -/
def Did (w : World) (d : Nat) (O : List Nat) (N : Nat) (s' : DS) (w' : World) : Prop := ∃ O', Drv w' d O' N s' ∧ Chg O w w' ∧ ∀ b ∈ O', b ∈ O ∨ w.heap.size ≤ b
theorem spend_since (s : DS) : s.spend.since = s.since := by unfold DS.spend; split <;> rfl
theorem spend_now (s : DS) : s.spend.now = s.now := by unfold DS.spend; split <;> rfl
theorem spend_las (s : DS) : s.spend.lasting = s.lasting := by unfold DS.spend; split <;> rfl
theorem z69 (w : World) : (zeroValue 95).run Try.prog w = .ok (.agg (wc (0, zeros)).toArray) w :=
  (zero_of_info (n := 129) (by have h := i69; cases hq : Try.prog.info? 95 with
    | none => simp [hq] at h
    | some i => simp only [hq, Option.map_some, Option.some.injEq, Prod.mk.injEq] at h ⊢; exact ⟨h.1, h.2.1⟩)).1 w
section
variable {w w' : World} {d N bn cn bl cl : Nat} {s s' : DS} {vs vs' : Value} {O O' : List Nat}
theorem ne_of_nd (h : DrvAt w d N s bn cn bl cl vs) : d ≠ bn ∧ d ≠ bl ∧ bn ≠ bl ∧ ∀ g, vs.ownBlock = some g → d ≠ g ∧ bn ≠ g ∧ bl ≠ g := by
  have := h.nd
  simp only [owns, List.nodup_cons, List.mem_cons, not_or] at this
  refine ⟨this.1.1, this.1.2.1, this.2.1.1, fun g hg => ?_⟩
  rw [hg] at this
  simp only [Option.toList_some, List.mem_singleton] at this
  exact ⟨this.1.2.2, this.2.1.2, this.2.2.1⟩
/-- The struct alone has changed. -/
theorem DrvAt.turn (h : DrvAt w d N s bn cn bl cl vs) (hf : Chg [d] w w') (hst : St w' d (.slice (some ⟨bn, 0, none⟩) N cn) (.slice (some ⟨bl, 0, none⟩) N cl) vs s'.fused s'.left s'.down)
    (e1 : s'.now = s.now) (e2 : s'.lasting = s.lasting) (e3 : s'.since = s.since) (hok : s'.Ok N) : DrvAt w' d N s' bn cn bl cl vs := by
  obtain ⟨n1, n2, n3, n4⟩ := ne_of_nd h
  refine ⟨hst, ?_, ?_, ?_, hok, h.n0, h.n1, h.c0, h.c1, h.nd⟩
  · rw [e1]; exact h.now.keep (hf.block _ h.now.lt (by simp; omega))
  · rw [e2]; exact h.las.keep (hf.block _ h.las.lt (by simp; omega))
  · rw [e3]; exact ownsRow_keep h.sin fun b hb => hf.block _ (h.sin.lt b hb).2 (by have := (n4 b hb).1; simp; omega)
def SpP (w : World) (d N : Nat) (s : DS) (bn cn bl cl : Nat) (vs : Value) (w' : World) : Prop := DrvAt w' d N s.spend bn cn bl cl vs ∧ Chg [d] w w'
theorem spend_any (h : DrvAt w d N s bn cn bl cl vs) (hd : s.down = false) :
    Calls Try.prog 50 #[.pointer (some ⟨d, 0, none⟩)] w fun e w' => e = .returned (.bool s.pow) ∧ SpP w d N s bn cn bl cl vs w' := by
  cases hf : s.fused with
  | false =>
    have hst := h.st
    rw [hf] at hst
    refine (spend_free hst).mono ?_
    rintro e w' ⟨rfl, rfl⟩
    refine ⟨by simp [DS.pow, hf], ?_, Chg.refl _ _⟩
    have : s.spend = s := by simp [DS.spend, hf]
    rw [this]
    exact h
  | true =>
    have hst := h.st
    rw [hf] at hst
    refine (spend_fused hst (h.ok.fuse hf hd) h.ok.hi).mono ?_
    rintro e w' ⟨rfl, h1, h2⟩
    refine ⟨by simp [DS.pow, hf], h.turn h2 ?_ (spend_now s) (spend_las s) (spend_since s) (h.ok.spend hd), h2⟩
    simp only [DS.spend, hf, if_true]
    exact h1
/-- The k-th write since the last flush, where it lies. -/
theorem DrvAt.at_ (h : DrvAt w d N s bn cn bl cl vs) {k : Nat} {p : Nat × List UInt8} (hp : s.since[k]? = some p) :
    ∃ g c, vs = .slice (some ⟨g, 0, none⟩) s.since.length c ∧ s.since.length ≤ c ∧ c ≤ maxLen ∧ g < w.heap.size ∧ w.rangeAt g (k * 129) (wc p) := by
  have hk : k < s.since.length := (List.getElem?_eq_some_iff.1 hp).1
  rcases h.sin.2 with ⟨_, h0⟩ | ⟨g, cap, cur, rfl, _, hg, hn, hm, hs, ht⟩
  · omega
  · refine ⟨g, cap, rfl, hn, hm, (Array.getElem?_eq_some_iff.1 hg).1, fun j v hj => ?_⟩
    have hl : ∀ x ∈ s.since, (wc x).length = 129 := fun x hx => wc_len (h.ok.since x hx).2
    have hj' : j < (wc p).length := (List.getElem?_eq_some_iff.1 hj).1
    rw [hl p (List.mem_of_getElem? hp)] at hj'
    have : (k + 1) * 129 ≤ s.since.length * 129 := Nat.mul_le_mul_right _ hk
    rw [cell_of hg, ← Array.getElem?_toList, ← hj, ← flat_get hl hp hj', ← ht, List.getElem?_take, if_pos (by omega)]
end
theorem lay_take {l : List (List UInt8)} {ps : List (Nat × List UInt8)} {k : Nat} {p : Nat × List UInt8} (h : ps[k]? = some p) : lay l (ps.take (k + 1)) = (lay l (ps.take k)).set p.1 p.2 := by
  obtain ⟨hk, rfl⟩ := List.getElem?_eq_some_iff.1 h
  rw [List.take_succ_eq_append_getElem hk, lay_snoc]
/-- A sector of 'lasting' is written. -/
theorem DrvAt.laid {w : World} {d N bn cn bl cl : Nat} {s : DS} {vs : Value} (h : DrvAt w d N s bn cn bl cl vs) {n : Nat} {x : List UInt8} (hn : n < N) (hx : x.length = 128) :
    DrvAt (w.setCells bl (n * 128) (bc x)) d N { s with lasting := s.lasting.set n x } bn cn bl cl vs := by
  obtain ⟨n1, n2, n3, n4⟩ := ne_of_nd h
  refine ⟨(heap_setCells_ne n2 _ _ _).trans h.st, h.now.keep (heap_setCells_ne n3 _ _ _), h.las.set (by rw [h.ok.lasting]; exact hn) hx, ownsRow_keep h.sin fun b hb => heap_setCells_ne (fun e => (n4 b hb).2.2 e.symm) _ _ _, ?_, h.n0, h.n1, h.c0, h.c1, h.nd⟩
  exact ⟨h.ok.now, by simp [h.ok.lasting], h.ok.since, h.ok.lo, h.ok.hi, h.ok.fuse⟩
theorem flush_nil (w : World) : Calls Try.prog 22 #[.pointer none] w fun e w' => e = .returned (.int .i64 1) ∧ w = w' := by
  go_enter Try.func22, Try.ntmps22
  go_wp2_with fail
  refine (ready_nil _).mono ?_
  rintro e w' ⟨rfl, rfl⟩
  go_wp2_with fail
  go_ret
  exact ⟨rfl, rfl⟩
set_option maxRecDepth 20000 in
set_option maxHeartbeats 2000000 in
theorem flush_any {w : World} {d : Nat} {O : List Nat} {N : Nat} {s : DS} (h : Drv w d O N s) :
    Calls Try.prog 22 #[.pointer (some ⟨d, 0, none⟩)] w fun e w' => e = .returned (.int .i64 s.flush.1) ∧ Did w d O N s.flush.2 w' := by
  obtain ⟨bn, cn, bl, cl, vs, rfl, h⟩ := h
  have H := Lib.hid h
  cases hd : s.down with
  | true =>
    have HF : Hid (s.flush = (11, s)) := by show _ = _; simp [DS.flush, hd]
    have hst := h.st
    rw [hd] at hst
    have HS := Lib.hid hst
    rw [HF.out]
    clear h hst hd
    go_enter Try.func22, Try.ntmps22
    go_wp2_with fail
    refine (ready_any HS.out).mono ?_
    rintro e w' ⟨rfl, rfl⟩
    go_wp2_with fail
    go_ret
    exact ⟨rfl, _, ⟨bn, cn, bl, cl, vs, rfl, H.out⟩, Chg.refl _ _, fun b hb => .inl hb⟩
  | false =>
    cases hp : s.pow with
    | false =>
      have HF : Hid (s.flush = (11, s.spend)) := by show _ = _; simp [DS.flush, hd, hp]
      have hst := h.st
      rw [hd] at hst
      have HS := Lib.hid hst
      have HP := Lib.hid (spend_any h hd)
      rw [HF.out]
      rw [hp] at HP
      clear h hst hd hp
      go_enter Try.func22, Try.ntmps22
      go_wp2_with fail
      refine (ready_any HS.out).mono ?_
      rintro e w' ⟨rfl, rfl⟩
      go_wp2_with fail
      refine HP.out.mono ?_
      rintro e w' ⟨rfl, hq⟩
      have HQ := Lib.hid hq
      clear hq
      go_wp2_with fail
      go_ret
      exact ⟨rfl, _, ⟨bn, cn, bl, cl, vs, rfl, HQ.out.1⟩, HQ.out.2.mono (fun b hb => .inl (by simp at hb; simp [owns, hb])), fun b hb => .inl hb⟩
    | true =>
      have HF : Hid (s.flush = (0, { s.spend with lasting := lay s.lasting s.since, since := [] })) := by show _ = _; simp [DS.flush, hd, hp]
      have hst := h.st
      rw [hd] at hst
      have HS := Lib.hid hst
      have HP := Lib.hid (spend_any h hd)
      rw [HF.out]
      rw [hp] at HP
      obtain ⟨hn0, hn1⟩ := And.intro h.n0 h.n1
      clear h hst hd hp
      go_enter Try.func22, Try.ntmps22
      go_wp2_with fail
      refine (ready_any HS.out).mono ?_
      rintro e w' ⟨rfl, rfl⟩
      go_wp2_with fail
      refine HP.out.mono ?_
      rintro e w1 ⟨rfl, hq⟩
      have HQ := Lib.hid hq
      have h2 := hq.1.st.c2
      clear hq
      obtain ⟨A, c, hvs, hc1, hc2⟩ : ∃ A c, vs = .slice A s.since.length c ∧ s.since.length ≤ c ∧ c ≤ maxLen := by
        rcases H.out.sin.2 with ⟨rfl, h0⟩ | ⟨g, cap, cur, rfl, _, hg, hn, hm, _⟩
        · exact ⟨none, 0, by rw [h0], by omega, by decide⟩
        · exact ⟨_, _, rfl, hn, hm⟩
      unfold maxLen at hc2
      have HV := Lib.hid hvs
      rw [hvs] at h2
      clear hvs
      go_wp2_with fail
      clear h2
      go_loopw [19] (fun i wr => ∃ k : Nat, k ≤ s.since.length ∧ i = .int .i64 k ∧ Hid (DrvAt wr d N { s.spend with lasting := lay s.lasting (s.since.take k) } bn cn bl cl vs) ∧ Hid (Chg (owns d bn bl vs) w wr)) (fun i _ => s.since.length - (intOf i).toNat)
      case atStart =>
        refine ⟨0, Nat.zero_le _, rfl, ?_, HQ.out.2.mono (fun b hb => .inl (by simp at hb; simp [owns, hb]))⟩
        have : ({ s.spend with lasting := lay s.lasting (s.since.take 0) } : DS) = s.spend := by
          rw [List.take_zero]; show ({ s.spend with lasting := s.lasting } : DS) = _; rw [← spend_las s]
        show DrvAt _ _ _ _ _ _ _ _ _
        rw [this]
        exact HQ.out.1
      case round =>
        obtain ⟨k, hk, rfl, HD, HC⟩ := hrel
        by_cases hlt : k < s.since.length
        · obtain ⟨p, hp⟩ : ∃ p, s.since[k]? = some p := ⟨_, List.getElem?_eq_getElem hlt⟩
          obtain ⟨g, c', hv, _, _, hg, hr⟩ := HD.out.at_ (k := k) (p := p) (by show s.spend.since[k]? = _; rw [spend_since]; exact hp)
          have hv' : Value.slice A s.since.length c = .slice (some ⟨g, 0, none⟩) s.since.length c' := by rw [← HV.out, hv]; show Value.slice _ s.spend.since.length _ = _; rw [spend_since]
          obtain ⟨rfl, rfl⟩ : A = some ⟨g, 0, none⟩ ∧ c = c' := by simpa using hv'
          have HX := Lib.hid hp
          have HR := Lib.hid hr
          obtain ⟨hpn, hpl⟩ := H.out.ok.since p (List.mem_of_getElem? hp)
          have HL := Lib.hid hpl
          clear hp hr hv hv' hpl
          have hz := z69
          have HI : Hid ((Try.prog.info? 95).map (·.size) = some (wc p).toArray.size) := by
            show _ = _
            rw [List.size_toArray, wc_len HL.out]; exact s69
          have HS2 : Hid ((wc (0, zeros)).toArray.size = (wc p).toArray.size) := by
            show _ = _
            rw [List.size_toArray, List.size_toArray, wc_len HL.out, wc_len zeros_len]
          go_wp2_with (first | (refine wpList_load_mid rfl 95 _ rfl g _ rfl (wc p) _ HR.out Try.underlying95 rfl (by rw [wc_len HL.out]; exact s69) ?_) | (refine wpList_store_new rfl 95 _ _ rfl wr (wc (0, zeros)).toArray (wc p).toArray rfl rfl HI.out HS2.out (all_oneCell_toArray (wc_one p)) ?_) | fail)
          clear hz
          obtain ⟨q1, q2, q3, q4⟩ := ne_of_nd HD.out
          have hc1 : (wr.alloc (.cells (wc p).toArray 95)).cell? ⟨d, 1, none⟩ = some (.slice (some ⟨bl, 0, none⟩) N cl) := by
            rw [World.cell?_alloc_lt _ _ _ HD.out.st.lt]; exact HD.out.st.c1
          have hnew : (wr.alloc (.cells (wc p).toArray 95)).heap[wr.heap.size]? = some (.cells (wc p).toArray 95 (0, 0)) := heap_alloc_new _ _
          have hca : (wr.alloc (.cells (wc p).toArray 95)).cell? ⟨wr.heap.size, 0, none⟩ = some (.int .i64 (p.1 : Int)) := by rw [cell_of hnew]; rfl
          have hrr : (wr.alloc (.cells (wc p).toArray 95)).rangeAt wr.heap.size 1 (bc p.2) := fun j v hj => by
            rw [cell_of hnew, Nat.add_comm, List.getElem?_toArray]; exact hj
          have hth : (wr.alloc (.cells (wc p).toArray 95)).there bl (p.1 * 128) 128 := World.there_alloc (HD.out.las.there (by rw [HD.out.ok.lasting]; exact hpn)) _
          have HD2 : Hid (DrvAt ((wr.alloc (.cells (wc p).toArray 95)).drew.setCells bl (p.1 * 128) (bc p.2)) d N { s.spend with lasting := lay s.lasting (s.since.take (k + 1)) } bn cn bl cl vs) := by
            show DrvAt _ _ _ _ _ _ _ _ _
            rw [lay_take HX.out]
            exact DrvAt.laid (w := (wr.alloc (.cells (wc p).toArray 95)).drew) (HD.out.keep fun b hb => Below.heap_alloc _ _ _ (HD.out.lt b hb)) hpn HL.out
          have HC2 : Hid (Chg (owns d bn bl vs) w ((wr.alloc (.cells (wc p).toArray 95)).drew.setCells bl (p.1 * 128) (bc p.2))) := (HC.out.alloc _).drew.setCells (.inl (by simp [owns])) _ _
          have hlen : (bc p.2).length = 128 := by rw [bc_len, HL.out]
          have hone := bc_one p.2
          have hu := Try.underlying80
          have hi : (Try.prog.info? 80).map (·.size) = some (bc p.2).length := by rw [hlen]; exact s67
          have hdn : d ≠ bl := q2
          have hhn : wr.heap.size ≠ bl := by have := HD.out.las.lt; omega
          clear HI HS2 HR HX q1 q2 q3 q4 HC hnew
          generalize (wr.alloc (.cells (wc p).toArray 95)) = w2 at *
          generalize wr.heap.size = h at *
          obtain ⟨n, x⟩ := p
          simp only at *
          have hk0 : (0 : Int) ≤ (n : Int) := Int.natCast_nonneg _
          have hk8 : (n : Int) < N := by omega
          generalize bc x = cs at *
          go_region_held3 (fun w' => w'.cell? ⟨d, 1, none⟩ = some (.slice (some ⟨bl, 0, none⟩) N cl) ∧ w'.cell? ⟨h, 0, none⟩ = some (.int .i64 (n : Int)) ∧ w'.rangeAt h 1 cs ∧ w'.there bl (n * 128) 128) ((go_split_ands; (try simp only [World.rangeAt_drew, World.there_drew] at *); (repeat' constructor) <;> first | assumption | (apply World.there_setCells; assumption) | (refine (World.cell?_setCells_out _ _ _ _ _ (fun e _ => absurd e hdn)).trans (by assumption)) | (refine (World.cell?_setCells_out _ _ _ _ _ (fun e _ => absurd e hhn)).trans (by assumption)) | (refine World.rangeAt_setCells_apart (by assumption) _ _ _ (Or.inl hhn)))) (fail)
          go_wp2_with fail
          go_roundw
          case rel => exact ⟨k + 1, by omega, by go_num, HD2, HC2⟩
          case measure => simp [intOf]; omega
        · obtain rfl : k = s.since.length := by omega
          have h2 := HD.out.st.c2
          have f2 := HD.out.st.fr 2
          rw [HV.out] at h2
          go_wp2_with fail
          go_ret
          refine ⟨rfl, owns d bn bl (.slice none 0 0), ⟨bn, cn, bl, cl, _, rfl, ?_⟩, HC.out.setCell (.inl (by simp [owns])) _, fun b hb => .inl ?_⟩
          · have hd := HD.out
            rw [List.take_length] at hd
            obtain ⟨n1, n2, n3, n4⟩ := ne_of_nd hd
            refine ⟨heap_setCell_at hd.st _, hd.now.keep (Below.heap_setCell _ _ _ _ (by show bn ≠ d; omega)), hd.las.keep (Below.heap_setCell _ _ _ _ (by show bl ≠ d; omega)), World.ownsRow_nil _ _ _ _, ⟨hd.ok.now, hd.ok.lasting, by simp, hd.ok.lo, hd.ok.hi, hd.ok.fuse⟩, hd.n0, hd.n1, hd.c0, hd.c1, by simp [owns, Value.ownBlock]; omega⟩
          · simp [owns, Value.ownBlock] at hb ⊢
            omega
end Go.Proofs.Ytlhkkelpombbiaa
