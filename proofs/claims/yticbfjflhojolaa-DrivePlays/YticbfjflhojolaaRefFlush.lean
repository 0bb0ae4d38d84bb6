/- The document's Flush, walked. -/
import Derived.Test.YticbfjflhojolaaRefGet
namespace Go.Proofs.Yticbfjflhojolaa
open Go.RowKit
set_option linter.unusedVariables false

theorem flat_set {α : Type} {f : α → List Value} {K : Nat} : ∀ {l : List α}, (∀ x ∈ l, (f x).length = K) → ∀ {i j : Nat} {x y : α} {u : Value}, l[i]? = some x → j < K → f y = (f x).set j u → (l.flatMap f).set (i * K + j) u = (l.set i y).flatMap f := by
  intro l
  induction l with
  | nil => intro _ i j x y u h; simp at h
  | cons a r ih =>
    intro hK i j x y u h hj hy
    have ha : (f a).length = K := hK a (by simp)
    cases i with
    | zero =>
      simp at h
      subst h
      rw [List.flatMap_cons, List.set_cons_zero, List.flatMap_cons, hy, Nat.zero_mul, Nat.zero_add, List.set_append_left _ _ (by omega)]
    | succ i =>
      have h' : r[i]? = some x := by simpa using h
      rw [List.flatMap_cons, List.set_cons_succ, List.flatMap_cons, List.set_append_right _ _ (by rw [ha, Nat.succ_mul]; omega), ha, Nat.succ_mul, show i * K + K + j - K = i * K + j by omega]
      rw [ih (fun z hz => hK z (by simp [hz])) h' hj hy]
/-- One of them is sure now. -/
theorem RAt.surely {w : World} {r N : Nat} {q : RD} {g c : Nat} (h : RAt w r N q (.slice (some ⟨g, 0, none⟩) q.list.length c)) {k : Nat} {d : Done} (hd : q.list[k]? = some d) :
    RAt (w.setCell ⟨g, k * 3 + 2, none⟩ (.bool true)) r N { q with list := q.list.set k { d with sure := true } } (.slice (some ⟨g, 0, none⟩) q.list.length c) := by
  have hgr : g ≠ r := fun e => h.ne (by simp [Value.ownBlock, e])
  have hk : k < q.list.length := (List.getElem?_eq_some_iff.1 hd).1
  refine ⟨(Below.heap_setCell _ _ _ _ (fun e => hgr e.symm)).trans h.st, ?_, h.lo, h.hi, h.ne, h.n1⟩
  show (w.setCell ⟨g, k * 3 + 2, none⟩ (.bool true)).ownsRow 0 71 3 _ (q.list.set k { d with sure := true }).length _
  rw [List.length_set]
  have hl : ∀ x ∈ q.list, (dc x).length = 3 := fun x _ => rfl
  have e : ({ q with list := q.list.set k { d with sure := true } } : RD).list.flatMap dc = (q.list.flatMap dc).set (k * 3 + 2) (.bool true) := (flat_set hl hd (by omega) rfl).symm
  rw [e]
  refine ⟨by rw [List.length_set]; exact h.own.1, ?_⟩
  rcases h.own.2 with ⟨hn, _⟩ | ⟨g', cap, cur, hv, hb, hg, hn, hm, hs, ht⟩
  · cases hn
  · simp only [Value.slice.injEq, Option.some.injEq, Addr.mk.injEq, and_true] at hv
    obtain ⟨rfl, _, rfl⟩ := hv
    refine .inr ⟨g, c, _, rfl, hb, heap_setCell_at hg _, hn, hm, by simpa using hs, ?_⟩
    rw [Array.toList_setIfInBounds, List.take_set, ht]
def markTo (l : List Done) (k : Nat) : List Done := allSure (l.take k) ++ l.drop k
theorem markTo_len (l : List Done) (k : Nat) : (markTo l k).length = l.length := by
  unfold markTo allSure
  rw [List.length_append, List.length_map, List.length_take, List.length_drop]
  omega
theorem markTo_get {l : List Done} {k : Nat} {d : Done} (h : l[k]? = some d) : (markTo l k)[k]? = some d := by
  have hk : k < l.length := (List.getElem?_eq_some_iff.1 h).1
  unfold markTo allSure
  rw [List.getElem?_append_right (by simp; omega), List.length_map, List.length_take, Nat.min_eq_left (by omega), Nat.sub_self, List.getElem?_drop, Nat.add_zero, h]
theorem markTo_set {l : List Done} {k : Nat} {d : Done} (h : l[k]? = some d) : (markTo l k).set k { d with sure := true } = markTo l (k + 1) := by
  obtain ⟨hk, rfl⟩ := List.getElem?_eq_some_iff.1 h
  unfold markTo allSure
  rw [List.set_append_right _ _ (by simp; omega), List.length_map, List.length_take, Nat.min_eq_left (by omega), Nat.sub_self, List.drop_eq_getElem_cons hk, List.set_cons_zero, List.take_succ_eq_append_getElem hk, List.map_append]
  simp
set_option maxHeartbeats 4000000 in
theorem rflush_any {w : World} {r : Nat} {O : List Nat} {N : Nat} {q : RD} (h : RDrv w r O N q) :
    Calls Try.prog 15 #[.pointer (some ⟨r, 0, none⟩)] w fun e w' => e = .returned (.int .i64 q.flush.1) ∧ RDid w r O N q.flush.2 w' := by
  obtain ⟨v, rfl, h⟩ := h
  have H := Lib.hid h
  have c3 := h.st.c3
  cases hd : q.dead with
  | true =>
    rw [hd] at c3
    have HF : Hid (q.flush = (11, q)) := by show _ = _; simp [RD.flush, hd]
    rw [HF.out]
    clear h hd
    go_enter Try.func15, Try.ntmps15
    go_wp2_with fail
    go_ret
    exact ⟨rfl, _, ⟨v, rfl, H.out⟩, Chg.refl _ _, fun b hb => .inl hb⟩
  | false =>
    rw [hd] at c3
    cases hp : q.pow with
    | false =>
      have HF : Hid (q.flush = (11, q.spark)) := by show _ = _; simp [RD.flush, hd, hp]
      have HS := Lib.hid (spark_any h)
      rw [hp] at HS
      rw [HF.out]
      clear h hd hp
      go_enter Try.func15, Try.ntmps15
      go_wp2_with fail
      refine HS.out.mono ?_
      rintro e w1 ⟨rfl, hq⟩
      have HQ := Lib.hid hq
      clear hq
      go_wp2_with fail
      go_ret
      exact ⟨rfl, _, ⟨v, rfl, HQ.out.1⟩, HQ.out.2.mono (fun b hb => .inl (by simp at hb; simp [rowns, hb])), fun b hb => .inl hb⟩
    | true =>
      have HF : Hid (q.flush = (0, { q.spark with list := allSure q.list })) := by show _ = _; simp [RD.flush, hd, hp]
      have HS := Lib.hid (spark_any h)
      rw [hp] at HS
      rw [HF.out]
      obtain ⟨A, c, hv, hc1, hc2⟩ := h.slice
      unfold maxLen at hc2
      have HV := Lib.hid hv
      clear h hd hp hv
      go_enter Try.func15, Try.ntmps15
      go_wp2_with fail
      refine HS.out.mono ?_
      rintro e w1 ⟨rfl, hq⟩
      have HQ := Lib.hid hq
      clear hq c3
      go_wp2_with fail
      go_loopw [3] (fun i wr => ∃ k : Nat, k ≤ q.list.length ∧ i = .int .i64 k ∧ Hid (RAt wr r N { q.spark with list := markTo q.list k } v) ∧ Hid (Chg (rowns r v) w wr)) (fun i _ => q.list.length - (intOf i).toNat)
      case atStart =>
        refine ⟨0, Nat.zero_le _, rfl, ?_, HQ.out.2.mono (fun b hb => .inl (by simp at hb; simp [rowns, hb]))⟩
        have e : ({ q.spark with list := markTo q.list 0 } : RD) = q.spark := by
          have : markTo q.list 0 = q.spark.list := by rw [spark_list]; simp [markTo, allSure]
          rw [this]
        show RAt _ _ _ _ _
        rw [e]
        exact HQ.out.1
      case round =>
        obtain ⟨k, hk, rfl, HR, HC⟩ := hrel
        have c1 := HR.out.st.c1
        rw [HV.out] at c1
        by_cases hlt : k < q.list.length
        · obtain ⟨d, hd⟩ : ∃ d, q.list[k]? = some d := ⟨_, List.getElem?_eq_getElem hlt⟩
          obtain ⟨g, c', hv, _, _, hg, hgr, _, _, k2, f2⟩ := HR.out.at_ (k := k) (markTo_get hd)
          have hlen : ({ q.spark with list := markTo q.list k } : RD).list.length = q.list.length := markTo_len _ _
          rw [hlen] at hv
          have hv' : Value.slice A q.list.length c = .slice (some ⟨g, 0, none⟩) q.list.length c' := by rw [← HV.out, hv]
          obtain ⟨rfl, rfl⟩ : A = some ⟨g, 0, none⟩ ∧ c = c' := by simpa using hv'
          have HR2 : Hid (RAt (wr.setCell ⟨g, k * 3 + 2, none⟩ (.bool true)) r N { q.spark with list := markTo q.list (k + 1) } v) := by
            have h0 := HR.out
            rw [hv] at h0 ⊢
            have h1 := RAt.surely (q := { q.spark with list := markTo q.list k }) (g := g) (c := c) (by rw [hlen]; exact h0) (markTo_get hd)
            rw [hlen] at h1
            have e : ({ ({ q.spark with list := markTo q.list k } : RD) with list := ({ q.spark with list := markTo q.list k } : RD).list.set k { d with sure := true } } : RD) = { q.spark with list := markTo q.list (k + 1) } := by
              show ({ q.spark with list := (markTo q.list k).set k { d with sure := true } } : RD) = _
              rw [markTo_set hd]
            rw [e] at h1
            exact h1
          have HC2 : Hid (Chg (rowns r v) w (wr.setCell ⟨g, k * 3 + 2, none⟩ (.bool true))) := HC.out.setCell (.inl (by rw [HV.out]; simp [rowns, Value.ownBlock])) _
          have i0 : (0 : Int) ≤ (k : Int) := Int.natCast_nonneg _
          clear hv hv' hd hlen HR HC
          go_wp2_with fail
          go_roundw
          case rel => exact ⟨k + 1, by omega, by go_num, HR2, HC2⟩
          case measure => simp [intOf]; omega
        · obtain rfl : k = q.list.length := by omega
          have HR2 : Hid (RAt wr r N { q.spark with list := allSure q.list } v) := by
            have := HR.out
            have e : markTo q.list q.list.length = allSure q.list := by simp [markTo]
            rw [e] at this
            exact this
          clear HR
          go_wp2_with fail
          go_ret
          exact ⟨rfl, _, ⟨v, rfl, HR2.out⟩, HC.out, fun b hb => .inl hb⟩
end Go.Proofs.Yticbfjflhojolaa
