/- The document's Restart, walked. -/
import Derived.Test.YticbfjflhojolaaRefPut
import Derived.Deep.Cut
namespace Go.Proofs.Yticbfjflhojolaa
open Go.RowKit
set_option linter.unusedVariables false

theorem unsure_snoc (L : List Done) (d : Done) : unsure (L ++ [d]) = unsure L + (if d.sure then 0 else 1) := by
  unfold unsure
  rw [List.filter_append, List.length_append]
  cases hs : d.sure with
  | true => rw [List.filter_cons_of_neg (by simp [hs])]; rfl
  | false => rw [List.filter_cons_of_pos (by simp [hs])]; rfl
theorem stay_snoc (keep : List Int) (d : Done) : ∀ (L : List Done) (k : Nat), stay keep k (L ++ [d]) = stay keep k L ++ (if d.sure then [d] else if kept keep (k + unsure L) then [{ d with sure := true }] else [])
  | [], k => by
    show stay keep k [d] = [] ++ (if d.sure then [d] else if kept keep (k + 0) then [{ d with sure := true }] else [])
    rw [stay, Nat.add_zero, List.nil_append]
    rfl
  | a :: r, k => by
    rw [List.cons_append]
    cases hs : a.sure with
    | true =>
      have e : unsure (a :: r) = unsure r := by unfold unsure; rw [List.filter_cons_of_neg (by simp [hs])]
      have e1 : ∀ l, stay keep k (a :: l) = a :: stay keep k l := fun l => by rw [stay, if_pos hs]
      rw [e, e1, e1, stay_snoc keep d r k, List.cons_append]
    | false =>
      have e : unsure (a :: r) = unsure r + 1 := by unfold unsure; rw [List.filter_cons_of_pos (by simp [hs])]; rfl
      rw [e, show k + (unsure r + 1) = k + 1 + unsure r by omega]
      cases hk : kept keep k with
      | true =>
        have e1 : ∀ l, stay keep k (a :: l) = { a with sure := true } :: stay keep (k + 1) l := fun l => by rw [stay, if_neg (by simp [hs]), if_pos hk]
        rw [e1, e1, stay_snoc keep d r (k + 1), List.cons_append]
      | false =>
        have e1 : ∀ l, stay keep k (a :: l) = stay keep (k + 1) l := fun l => by rw [stay, if_neg (by simp [hs]), if_neg (by simp [hk])]
        rw [e1, e1, stay_snoc keep d r (k + 1)]
theorem stay_len (keep : List Int) : ∀ (L : List Done) (k : Nat), (stay keep k L).length ≤ L.length
  | [], _ => by simp [stay]
  | a :: r, k => by
    rw [stay]
    split
    · have := stay_len keep r k; simp; omega
    · split
      · have := stay_len keep r (k + 1); simp; omega
      · have := stay_len keep r (k + 1); simp; omega
theorem unsure_le (L : List Done) : unsure L ≤ L.length := List.length_filter_le _ _
theorem app71b {w : World} {base : Nat} {vs : Value} {k : Nat} {xs : List Value} (h : w.ownsRow base 71 3 vs k xs) (hbase : base ≤ w.heap.size) (cs : List Value) (hl : cs.length = 3) (h1 : ∀ v ∈ cs, v.oneCell' = true) (hb : (k + 1) * 32 ≤ 140737488355328) :
    ∃ g cap w', (Builtin.append_ #[63, 63] 63 #[vs, .slice (some ⟨w.heap.size, 0, none⟩) 1 1]).run Try.prog (w.alloc (.cells cs.toArray 71)) = .ok (.slice (some ⟨g, 0, none⟩) (k + 1) cap) w' ∧ w'.ownsRow base 71 3 (.slice (some ⟨g, 0, none⟩) (k + 1) cap) (k + 1) (xs ++ cs) ∧ Below base w w' := by
  have hz := i71
  cases hq : Try.prog.info? 71 with
  | none => simp [hq] at hz
  | some i =>
    simp only [hq, Option.map_some, Option.some.injEq, Prod.mk.injEq] at hz
    have hnew : (w.alloc (.cells cs.toArray 71)).heap[w.heap.size]? = some (.cells cs.toArray 71 (0, 0)) := heap_alloc_new _ _
    have hsz : (w.alloc (.cells cs.toArray 71)).heap.size = w.heap.size + 1 := by simp
    obtain ⟨g, cap, w', h2, h3, h4, _, _⟩ := run_append_lies (P := Try.prog) (w.alloc (.cells cs.toArray 71)) 63 63 base 71 i _ 3 32 Try.underlying63 hq hz.1 hz.2.1 hz.2.2 rfl (by omega)
      vs k xs (ownsRow_keep h fun b hb => Below.heap_alloc _ _ _ (h.lt b hb).2) ⟨w.heap.size, 0, none⟩ 1 1 cs (by omega) (fun j u hu => by rw [Addr.add_mid, Nat.zero_add, cell_of hnew, List.getElem?_toArray]; exact hu) h1 (by omega) (by unfold maxLen; omega) hb (by omega) (w.heap.size + 1) (by simp)
    refine ⟨g, cap, w', h2, h3, ((Below.refl _ _).alloc hbase _).grown h4 (by omega) (fun q hq => (h.lt q hq).1)⟩
/-- The loop of Restart, behind i of them. -/
def RR (w : World) (r N : Nat) (q : RD) (v : Value) (keep : List Int) (i : Nat) (wr : World) (vl : Value) : Prop :=
  Below w.heap.size w wr ∧ wr.ownsRow w.heap.size 71 3 vl (stay keep 0 (q.list.take i)).length ((stay keep 0 (q.list.take i)).flatMap dc)
set_option maxRecDepth 100000 in
set_option maxHeartbeats 1000000 in
theorem rrestart_any {w : World} {r : Nat} {O : List Nat} {N : Nat} {q : RD} {M : Nat → Prop} {A : Option Addr} {n c : Nat} {keep : List Int} (h : RDrv w r O N q) (hI : Ints w M A n c keep) (hM : ∀ b, M b → b < w.heap.size) (hb : (q.list.length + 1) * 32 ≤ 140737488355328) :
    Calls Try.prog 19 #[.pointer (some ⟨r, 0, none⟩), .slice A n c] w fun e w' => e = .returned (.tuple #[]) ∧ RDid w r O N (q.restart keep) w' := by
  obtain ⟨v, rfl, h⟩ := h
  have H := Lib.hid h
  have HK := Lib.hid hI
  have HM := Lib.hid hM
  have HBY := Lib.hid hb
  have hlim := hI.lim
  have hcap := hI.cap
  unfold maxLen at hlim
  obtain ⟨A', c', hv, hc1, hc2⟩ := h.slice
  unfold maxLen at hc2
  have HV := Lib.hid hv
  have hrl := h.st.lt
  clear hv h hI hM hb
  go_enter Try.func19, Try.ntmps19
  go_wp2_with fail
  go_loopw [4, 5, 6] (fun vl k i wr => ∃ m : Nat, m ≤ q.list.length ∧ i = .int .i64 (m : Int) ∧ k = .int .i64 (unsure (q.list.take m) : Int) ∧ Hid (RR w r N q v keep m wr vl)) (fun _ _ i _ => q.list.length - (intOf i).toNat)
  case atStart =>
    exact ⟨0, Nat.zero_le _, rfl, rfl, (Below.refl _ _).alloc (Nat.le_refl _) _, World.ownsRow_made w #[] 0 (Nat.le_refl _) (by unfold maxLen; omega) (by simp)⟩
  case round =>
    obtain ⟨m, hm, rfl, rfl, HR⟩ := hrel
    have c1 := (H.out.st.keep (HR.out.1.block r hrl)).c1
    rw [HV.out] at c1
    by_cases hlt : m < q.list.length
    · obtain ⟨d, hd⟩ : ∃ d, q.list[m]? = some d := ⟨_, List.getElem?_eq_getElem hlt⟩
      obtain ⟨g, c'', hv, _, _, hg, hgr, k0, k1, k2, _⟩ := (H.out.keep (w' := _) fun b hb => HR.out.1.block b (H.out.lt b hb)).at_ hd
      have hv' : Value.slice A' q.list.length c' = .slice (some ⟨g, 0, none⟩) q.list.length c'' := by rw [← HV.out, hv]
      obtain ⟨rfl, rfl⟩ : A' = some ⟨g, 0, none⟩ ∧ c' = c'' := by simpa using hv'
      have HD := Lib.hid hd
      have i0 : (0 : Int) ≤ (m : Int) := Int.natCast_nonneg _
      have hul := unsure_le (q.list.take m)
      rw [List.length_take] at hul
      have hT : q.list.take (m + 1) = q.list.take m ++ [d] := by
        obtain ⟨hk, rfl⟩ := List.getElem?_eq_some_iff.1 hd
        rw [List.take_succ_eq_append_getElem hk]
      have HT := Lib.hid hT
      clear hv hv' hd hT
      obtain ⟨at_, data, ds⟩ := d
      simp only at k0 k1 k2
      have hslen := stay_len keep (q.list.take m) 0
      rw [List.length_take] at hslen
      have hby : ((stay keep 0 (q.list.take m)).length + 1) * 32 ≤ 140737488355328 := by have := HBY.out; omega
      have HY := Lib.hid hby
      clear hslen hby
      cases ds with
      | true =>
        have hsz : (wr.alloc (.cells #[.int .i64 (at_ : Int), .string ⟨data.toArray⟩, .bool true] 71)).heap.size = wr.heap.size + 1 := by simp
        obtain ⟨g2, cap2, w7, hrun, hown, hbel⟩ := app71b (w := wr.alloc (.cells #[.int .i64 (at_ : Int), .string ⟨data.toArray⟩, .bool true] 71)) (base := w.heap.size) (ownsRow_keep HR.out.2 fun b hb => Below.heap_alloc _ _ _ (HR.out.2.lt b hb).2) (by rw [hsz]; have := HR.out.1.size; omega) (dc ⟨at_, data, true⟩) rfl (dc_one _) HY.out
        have HR2 : Hid (RR w r N q v keep (m + 1) w7 (.slice (some ⟨g2, 0, none⟩) ((stay keep 0 (q.list.take m)).length + 1) cap2)) := by
          refine ⟨(HR.out.1.alloc HR.out.1.size _).trans hbel, ?_⟩
          rw [HT.out, stay_snoc, if_pos rfl, List.length_append, List.flatMap_append]
          simpa using hown
        have HU : Hid (unsure (q.list.take (m + 1)) = unsure (q.list.take m)) := by show _ = _; rw [HT.out, unsure_snoc]; rfl
        have HRUN : Hid ((Builtin.append_ #[63, 63] 63 #[u4, .slice (some ⟨(wr.alloc (.cells #[.int .i64 (at_ : Int), .string ⟨data.toArray⟩, .bool true] 71)).heap.size, 0, none⟩) 1 1]).run Try.prog ((wr.alloc (.cells #[.int .i64 (at_ : Int), .string ⟨data.toArray⟩, .bool true] 71)).alloc (.cells #[.int .i64 (at_ : Int), .string ⟨data.toArray⟩, .bool true] 71)) = .ok (.slice (some ⟨g2, 0, none⟩) ((stay keep 0 (q.list.take m)).length + 1) cap2) w7) := hrun
        rw [hsz] at HRUN
        clear hrun hown hbel hsz HR
        go_upto_region 10 with (fail)
        go_wp2_with (first | (refine wpList_append_run rfl _ _ 63 rfl _ _ _ _ rfl rfl HRUN.out ?_) | fail)
        go_roundw
        case rel => exact ⟨m + 1, by omega, by go_num, by rw [HU.out], HR2⟩
        case measure => simp [intOf]; omega
      | false =>
        have hU : unsure (q.list.take (m + 1)) = unsure (q.list.take m) + 1 := by rw [HT.out, unsure_snoc]; rfl
        have HST : Hid (stay keep 0 (q.list.take (m + 1)) = stay keep 0 (q.list.take m) ++ (if kept keep (unsure (q.list.take m)) then [⟨at_, data, true⟩] else [])) := by
          show _ = _
          rw [HT.out, stay_snoc, if_neg (by simp), Nat.zero_add]
        obtain ⟨uk, hUK⟩ : ∃ uk, unsure (q.list.take m) = uk := ⟨_, rfl⟩
        rw [hUK] at hU hul HST ⊢
        have HU := Lib.hid hU
        have huk : uk ≤ m := by omega
        clear hU hUK hul HD HT
        by_cases hkn : uk < n
        · obtain ⟨bk, ok, rfl, hmb, hck⟩ := HK.out.at_ (by omega)
          have hck0 := (World.cell?_of_block (a := ⟨bk, ok + uk, none⟩) (HR.out.1.block bk (HM.out bk hmb))).trans (hck _ hkn)
          have hKP : kept keep uk = !((keep[uk]?.getD 0) == 0) := rfl
          obtain ⟨y, hye⟩ : ∃ y, keep[uk]?.getD 0 = y := ⟨_, rfl⟩
          rw [hye] at hck0 hKP
          have hbl : bk < wr.heap.size := Nat.lt_of_lt_of_le (HM.out bk hmb) HR.out.1.size
          have j0 : (0 : Int) ≤ (uk : Int) := Int.natCast_nonneg _
          have t1 : decide ((uk : Int) < (n : Int)) = true := by simp; omega
          clear hck hye hmb
          by_cases hy : y = 0
          · subst hy
            have HKP : Hid (kept keep uk = false) := by rw [hKP]; rfl
            clear hKP
            have HR2 : Hid (∀ o, RR w r N q v keep (m + 1) (wr.alloc o) u4) := fun o => by
              refine ⟨HR.out.1.alloc HR.out.1.size _, ?_⟩
              rw [HST.out, HKP.out]
              simp only [Bool.false_eq_true, if_false, List.append_nil]
              exact ownsRow_keep HR.out.2 fun b hb => Below.heap_alloc _ _ _ (HR.out.2.lt b hb).2
            clear HR HST HKP
            go_wp2_with fail
            go_roundw
            case rel => exact ⟨m + 1, by omega, by go_num, by rw [HU.out]; go_num, HR2.out _⟩
            case measure => simp [intOf]; omega
          · have HKP : Hid (kept keep uk = true) := by rw [hKP]; simp [Hid, hy]
            have hy1 : (y != 0) = true := by simp [hy]
            have hy2 : (y == 0) = false := by simp [hy]
            clear hKP
            have hsz : (wr.alloc (.cells #[.int .i64 (at_ : Int), .string ⟨data.toArray⟩, .bool true] 71)).heap.size = wr.heap.size + 1 := by simp
            obtain ⟨g2, cap2, w7, hrun, hown, hbel⟩ := app71b (w := wr.alloc (.cells #[.int .i64 (at_ : Int), .string ⟨data.toArray⟩, .bool true] 71)) (base := w.heap.size) (ownsRow_keep HR.out.2 fun b hb => Below.heap_alloc _ _ _ (HR.out.2.lt b hb).2) (by rw [hsz]; have := HR.out.1.size; omega) (dc ⟨at_, data, true⟩) rfl (dc_one _) HY.out
            have HR2 : Hid (RR w r N q v keep (m + 1) w7 (.slice (some ⟨g2, 0, none⟩) ((stay keep 0 (q.list.take m)).length + 1) cap2)) := by
              refine ⟨(HR.out.1.alloc HR.out.1.size _).trans hbel, ?_⟩
              rw [HST.out, HKP.out, if_pos rfl, List.length_append, List.flatMap_append]
              simpa using hown
            have HRUN : Hid ((Builtin.append_ #[63, 63] 63 #[u4, .slice (some ⟨(wr.alloc (.cells #[.int .i64 (at_ : Int), .string ⟨data.toArray⟩, .bool true] 71)).heap.size, 0, none⟩) 1 1]).run Try.prog ((wr.alloc (.cells #[.int .i64 (at_ : Int), .string ⟨data.toArray⟩, .bool true] 71)).alloc (.cells #[.int .i64 (at_ : Int), .string ⟨data.toArray⟩, .bool true] 71)) = .ok (.slice (some ⟨g2, 0, none⟩) ((stay keep 0 (q.list.take m)).length + 1) cap2) w7) := hrun
            rw [hsz] at HRUN
            clear hrun hown hbel hsz HR HST HKP
            go_upto_region 10 with (fail)
            go_wp2_with (first | (refine wpList_append_run rfl _ _ 63 rfl _ _ _ _ rfl rfl HRUN.out ?_) | fail)
            go_roundw
            case rel => exact ⟨m + 1, by omega, by go_num, by rw [HU.out]; go_num, HR2⟩
            case measure => simp [intOf]; omega
        · have HKP : Hid (kept keep uk = false) := by show _ = _; unfold kept; rw [List.getElem?_eq_none (by rw [HK.out.len]; omega)]; rfl
          have t1 : decide ((uk : Int) < (n : Int)) = false := by simp; omega
          have t2 : decide (uk < n) = false := by simpa using hkn
          have HR2 : Hid (∀ o, RR w r N q v keep (m + 1) (wr.alloc o) u4) := fun o => by
            refine ⟨HR.out.1.alloc HR.out.1.size _, ?_⟩
            rw [HST.out, HKP.out]
            simp only [Bool.false_eq_true, if_false, List.append_nil]
            exact ownsRow_keep HR.out.2 fun b hb => Below.heap_alloc _ _ _ (HR.out.2.lt b hb).2
          clear HR HST HKP
          go_wp2_with fail
          go_roundw
          case rel => exact ⟨m + 1, by omega, by go_num, by rw [HU.out]; go_num, HR2.out _⟩
          case measure => simp [intOf]; omega
    · obtain rfl : m = q.list.length := by omega
      have hst := H.out.st.keep (HR.out.1.block r hrl)
      have c2 := hst.c2
      have c3 := hst.c3
      have f1 := hst.fr 1
      have f2 := hst.fr 2
      have f3 := hst.fr 3
      have HST := Lib.hid hst
      have HRE : Hid (wr.ownsRow w.heap.size 71 3 u4 (stay keep 0 q.list).length ((stay keep 0 q.list).flatMap dc)) := by
        have := HR.out.2
        rw [List.take_length] at this
        exact this
      obtain ⟨Au, nu, cu, hu4⟩ : ∃ A n c, u4 = .slice A n c := by
        rcases HRE.out.2 with ⟨e, _⟩ | ⟨g, cap, cur, e, _⟩
        · exact ⟨_, _, _, e⟩
        · exact ⟨_, _, _, e⟩
      subst hu4
      clear hst
      go_wp2_with fail
      go_end0
      have hgn : ∀ b, (Value.slice Au nu cu).ownBlock = some b → b ≠ r := fun b hb e => by have := (HRE.out.lt b hb).1; omega
      refine ⟨rfl, rowns r (.slice Au nu cu), ⟨_, rfl, heap_setCell_at (heap_setCell_at (heap_setCell_at HST.out _) _) _, ?_, by simp [RD.restart], by simp [RD.restart], fun e => hgn r e rfl, H.out.n1⟩, (((Chg.of_below HR.out.1).setCell (.inl (by simp [rowns])) _).setCell (.inl (by simp [rowns])) _).setCell (.inl (by simp [rowns])) _, fun b hb => ?_⟩
      · have h0 : wr.ownsRow 0 71 3 (.slice Au nu cu) (stay keep 0 q.list).length ((stay keep 0 q.list).flatMap dc) := by
          refine ⟨HRE.out.1, ?_⟩
          rcases HRE.out.2 with e | ⟨g, cap, cur, e, hb, rest⟩
          · exact .inl e
          · exact .inr ⟨g, cap, cur, e, Nat.zero_le _, rest⟩
        exact ownsRow_keep h0 fun b hb => by rw [Below.heap_setCell _ _ _ _ (hgn b hb), Below.heap_setCell _ _ _ _ (hgn b hb), Below.heap_setCell _ _ _ _ (hgn b hb)]
      · simp only [rowns, List.mem_cons, Option.mem_toList] at hb
        rcases hb with rfl | hb
        · exact .inl (by simp [rowns])
        · exact .inr (HRE.out.lt b hb).1
end Go.Proofs.Yticbfjflhojolaa
