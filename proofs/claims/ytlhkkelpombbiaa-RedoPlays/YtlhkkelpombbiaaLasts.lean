/- redo.putLasting, putHead, apply, settle, logged, walked. -/
import Derived.Test.YtlhkkelpombbiaaHeads
namespace Go.Proofs.Ytlhkkelpombbiaa
open Go.RowKit
set_option linter.unusedVariables false

/-- The blocks of M are there, and none of the drive's. -/
def Free (w : World) (O : List Nat) (M : Nat → Prop) : Prop := ∀ b, M b → b < w.heap.size ∧ b ∉ O
theorem Free.after {w w' : World} {O O' : List Nat} {M : Nat → Prop} (h : Free w O M) (hc : Chg O w w') (hO : ∀ b ∈ O', b ∈ O ∨ w.heap.size ≤ b) : Free w' O' M := fun b hb =>
  ⟨Nat.lt_of_lt_of_le (h b hb).1 hc.size, not_after hO (h b hb).2 (h b hb).1⟩
theorem Free.keep {w w' : World} {O : List Nat} {M : Nat → Prop} (h : Free w O M) (hc : Chg O w w') : ∀ b, M b → w'.heap[b]? = w.heap[b]? := fun b hb => hc.block b (h b hb).1 (h b hb).2
theorem Free.below {w w' : World} {O : List Nat} {M : Nat → Prop} (h : Free w O M) (hc : Below w.heap.size w w') : Free w' O M := fun b hb => ⟨Nat.lt_of_lt_of_le (h b hb).1 hc.size, (h b hb).2⟩
theorem Did.mk {w w' : World} {d N : Nat} {O : List Nat} {s : DS} (h : Drv w' d O N s) (hc : Chg O w w') : Did w d O N s w' := ⟨O, h, hc, fun b hb => .inl hb⟩
/-- A drive that nobody touched. -/
theorem Did.below {w w' : World} {d N : Nat} {O : List Nat} {s : DS} (h : Drv w d O N s) (hb : Below w.heap.size w w') : Did w d O N s w' :=
  Did.mk (h.keep fun b hb' => hb.block b (h.lt b hb')) (Chg.of_below hb)
theorem Did.from_ {w w1 w' : World} {d N : Nat} {O : List Nat} {s : DS} (h : Did w1 d O N s w') (hb : Below w.heap.size w w1) : Did w d O N s w' := by
  obtain ⟨O', h1, h2, h3⟩ := h
  exact ⟨O', h1, (Chg.of_below hb).tr h2, fun b hb' => by rcases h3 b hb' with g | g; exact .inl g; right; have := hb.size; omega⟩
theorem Did.then_ {w w1 w2 : World} {d N : Nat} {O O1 : List Nat} {s : DS} (hc : Chg O w w1) (hO : ∀ b ∈ O1, b ∈ O ∨ w.heap.size ≤ b) (k : Did w1 d O1 N s w2) : Did w d O N s w2 := by
  obtain ⟨O2, g1, g2, g3⟩ := k
  refine ⟨O2, g1, hc.trans g2 hO, fun b hb => ?_⟩
  rcases g3 b hb with g | g
  · exact hO b g
  · right; have := hc.size; omega
theorem Drv.below {w w' : World} {d N : Nat} {O : List Nat} {s : DS} (h : Drv w d O N s) (hb : Below w.heap.size w w') : Drv w' d O N s := h.keep fun b hb' => hb.block b (h.lt b hb')
theorem flush_since {s : DS} (h : s.flush.1 = 0) : s.flush.2.since = [] := by
  unfold DS.flush at h ⊢
  split
  · rename_i hd; simp [hd] at h
  · rename_i hd
    split
    · rfl
    · rename_i hp; simp [hd, hp] at h
theorem lasts_since {s : DS} {N : Nat} {ws : List Wr} (h : (s.lasts N ws).1 = 0) : (s.lasts N ws).2.since = [] := by
  unfold DS.lasts at h ⊢
  by_cases hp : (s.put N ws).1 = 0
  · rw [if_pos hp] at h ⊢
    exact flush_since h
  · rw [if_neg hp] at h
    exact absurd h hp
abbrev rid (w : World) (d : Nat) (O : List Nat) (N : Nat) (p : Int × DS) : Ending → World → Prop := fun e w' => e = .returned (.int .i64 p.1) ∧ Did w d O N p.2 w'
set_option maxRecDepth 20000 in
set_option maxHeartbeats 1000000 in
theorem lasting_any {w : World} {d : Nat} {O : List Nat} {N : Nat} {s : DS} {M : Nat → Prop} {A : Option Addr} {n c : Nat} {ws : List Wr} (h : Drv w d O N s)
    (hW : Wrs w M A n c ws) (hM : Free w O M) (hb : (s.since.length + n) * 136 ≤ 140737488355328) :
    Calls Try.prog 45 #[.pointer (some ⟨d, 0, none⟩), .slice A n c] w fun e w' => e = .returned (.int .i64 (s.lasts N ws).1) ∧ Did w d O N (s.lasts N ws).2 w' := by
  have HP := Lib.hid (put_any h hW hM hb)
  unfold DS.lasts
  generalize s.put N ws = p at *
  obtain ⟨x, s1⟩ := p
  clear h hW hM hb
  by_cases hx : x = 0
  · subst hx
    simp only [if_true]
    simp only at HP
    generalize hf : s1.flush = q at *
    obtain ⟨y, s2⟩ := q
    have HF := Lib.hid hf
    clear hf
    go_enter Try.func45, Try.ntmps45
    go_wp2_with fail
    refine HP.out.mono ?_
    rintro e w1 ⟨rfl, O1, h1, h2, h3⟩
    have H1 := Lib.hid h1
    have H2 := Lib.hid h2
    have H3 := Lib.hid h3
    clear h1 h2 h3
    go_wp2_with fail
    refine (flush_any H1.out).mono ?_
    rintro e w2 ⟨rfl, hd⟩
    rw [HF.out] at hd ⊢
    have HD := Lib.hid (Did.then_ H2.out H3.out hd)
    clear hd
    go_wp2_with fail
    go_ret
    exact ⟨rfl, HD.out⟩
  · simp only [hx, if_false]
    have hx' : (x != 0) = true := by simpa using hx
    simp only at HP
    clear hx
    go_enter Try.func45, Try.ntmps45
    go_wp2_with fail
    refine HP.out.mono ?_
    rintro e w1 ⟨rfl, hd⟩
    have HD := Lib.hid hd
    clear hd
    go_wp2_with fail
    go_ret
    exact ⟨rfl, HD.out⟩
/-- A head of one's own, as the bytes of a write. -/
theorem mine_bts {w w' : World} {v : Value} {l : List UInt8} (h : F.Mine w w' v l) (h0 : 0 < l.length) : ∃ g cap, v = .slice (some ⟨g, 0, none⟩) l.length cap ∧ w.heap.size ≤ g ∧ g < w'.heap.size ∧ Bts w' (IM g) (some ⟨g, 0, none⟩) l.length cap l := by
  rcases h.own.2 with ⟨rfl, e⟩ | ⟨g, cap, cur, rfl, hg, hh, hn, hm, hs, ht⟩
  · omega
  · refine ⟨g, cap, rfl, hg, (Array.getElem?_eq_some_iff.1 hh).1, rfl, hn, hm, fun _ => ⟨g, 0, rfl, rfl, fun j v hj => ?_⟩⟩
    have hj' : j < l.length := by have := (List.getElem?_eq_some_iff.1 hj).1; rwa [bc_len] at this
    rw [Nat.zero_add, cell_of hh, ← Array.getElem?_toList, ← hj]
    have : cur.toList[j]? = (l.map F.bv)[j]? := by
      rw [← ht, List.getElem?_take, if_pos (by omega)]
    rw [this]
    rfl
theorem wrs_1 {w : World} {M : Nat → Prop} {A : Option Addr} {n c : Nat} {l : List UInt8} (x : Int) (hb : Bts w M A n c l) (hM : ∀ b, M b → b < w.heap.size) :
    Wrs (w.alloc (.cells #[.int .i64 x, .slice A n c] 56)) (fun q => M q ∨ q = w.heap.size) (some ⟨w.heap.size, 0, none⟩) 1 1 [(x, l)] := by
  have hnew : (w.alloc (.cells #[.int .i64 x, .slice A n c] 56)).heap[w.heap.size]? = some (.cells #[.int .i64 x, .slice A n c] 56 (0, 0)) := heap_alloc_new _ _
  refine ⟨rfl, Nat.le_refl _, by unfold maxLen; omega, fun _ => ⟨_, 0, rfl, .inr rfl, fun j y hj => ?_⟩⟩
  match j, hj with
  | 0, hj =>
    simp only [List.getElem?_cons_zero, Option.some.injEq] at hj
    subst hj
    exact ⟨cell_of hnew 0, _, _, _, cell_of hnew 1, (hb.keep fun b hb' => Below.heap_alloc _ _ _ (hM b hb')).more fun b hb' => .inl hb'⟩
  | j + 1, hj => simp at hj
set_option maxRecDepth 20000 in
set_option maxHeartbeats 1000000 in
theorem putHead_any {w : World} {d : Nat} {O : List Nat} {N : Nat} {s : DS} {M : Nat → Prop} {A : Option Addr} {n c : Nat} {ns : List Int} (h : Drv w d O N s)
    (hI : Ints w M A n c ns) (hM : ∀ b, M b → b < w.heap.size) (hg : good ns = true) (hb : s.since.length ≤ 1000000) :
    Calls Try.prog 47 #[.pointer (some ⟨d, 0, none⟩), .slice A n c] w fun e w' => e = .returned (.int .i64 (s.head N ns).1) ∧ Did w d O N (s.head N ns).2 w' := by
  have H := Lib.hid h
  have HH := Lib.hid (head_yes hI hM hg)
  have hlen := hd_len (good_iff.1 hg).1
  have HLN := Lib.hid hlen
  have HSN := Lib.hid hb
  clear h hI hM hg hlen hb
  go_enter Try.func47, Try.ntmps47
  go_wp2_with fail
  refine HH.out.mono ?_
  rintro e w1 ⟨v, rfl, hm⟩
  have HB1 := Lib.hid hm.bel
  obtain ⟨g, cap, rfl, hg1, hg2, hbt⟩ := mine_bts hm (by rw [HLN.out]; omega)
  rw [HLN.out] at hbt ⊢
  have HBT := Lib.hid hbt
  clear hm hbt
  go_wp2_with fail
  refine (lasting_any (O := O) (N := N) (s := s) (H.out.below (HB1.out.alloc HB1.out.size _)) (wrs_1 1 HBT.out (fun b hb => by cases hb; exact hg2)) ?_ (by have := HSN.out; omega)).mono ?_
  · rintro b (rfl | rfl)
    · exact ⟨by simp; omega, fun e => by have := H.out.lt _ e; omega⟩
    · exact ⟨by simp, fun e => by have := H.out.lt _ e; have := HB1.out.size; omega⟩
  · rintro e w2 ⟨rfl, hdd⟩
    have HD : Hid (Did w d O N (s.head N ns).2 w2) := Did.from_ hdd (HB1.out.alloc HB1.out.size _)
    have HE : Hid (s.lasts N [(1, hd ns)] = s.head N ns) := rfl
    rw [HE.out]
    clear hdd
    go_wp2_with fail
    go_ret
    exact ⟨rfl, HD.out⟩
set_option maxRecDepth 20000 in
set_option maxHeartbeats 1000000 in
theorem apply_any {w : World} {d : Nat} {O : List Nat} {N : Nat} {s : DS} {M : Nat → Prop} {A : Option Addr} {n c : Nat} {ws : List Wr} (h : Drv w d O N s)
    (hW : Wrs w M A n c ws) (hM : Free w O M) (hb : (s.since.length + n) * 136 ≤ 140737488355328) :
    Calls Try.prog 48 #[.pointer (some ⟨d, 0, none⟩), .slice A n c] w fun e w' => e = .returned (.int .i64 (s.apply N ws).1) ∧ Did w d O N (s.apply N ws).2 w' := by
  have HP := Lib.hid (lasting_any h hW hM hb)
  have HZ := Lib.hid (@lasts_since s N ws)
  unfold DS.apply
  generalize s.lasts N ws = p at *
  obtain ⟨x, s1⟩ := p
  clear h hW hM hb
  by_cases hx : x = 0
  · subst hx
    simp only [if_true]
    have HZ2 : Hid (s1.since = []) := HZ.out rfl
    simp only at HP
    generalize hf : s1.head N [] = q at *
    obtain ⟨y, s2⟩ := q
    have HF := Lib.hid hf
    clear hf HZ
    go_enter Try.func48, Try.ntmps48
    go_wp2_with fail
    refine HP.out.mono ?_
    rintro e w1 ⟨rfl, O1, h1, h2, h3⟩
    have H1 := Lib.hid h1
    have H2 := Lib.hid h2
    have H3 := Lib.hid h3
    clear h1 h2 h3
    go_wp2_with fail
    refine (putHead_any H1.out (ints_none w1 (fun _ => False)) (fun _ hf => hf.elim) good_nil (by rw [HZ2.out]; simp)).mono ?_
    rintro e w2 ⟨rfl, hd⟩
    rw [HF.out] at hd ⊢
    have HD := Lib.hid (Did.then_ H2.out H3.out hd)
    clear hd
    go_wp2_with fail
    go_ret
    exact ⟨rfl, HD.out⟩
  · simp only [hx, if_false]
    have hx' : (x != 0) = true := by simpa using hx
    simp only at HP
    clear hx HZ
    go_enter Try.func48, Try.ntmps48
    go_wp2_with fail
    refine HP.out.mono ?_
    rintro e w1 ⟨rfl, hd⟩
    have HD := Lib.hid hd
    clear hd
    go_wp2_with fail
    go_ret
    exact ⟨rfl, HD.out⟩
end Go.Proofs.Ytlhkkelpombbiaa
