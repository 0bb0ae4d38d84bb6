/- package verb: get, at numbers, texts and bytes: what is read is laid into the fields of one block. -/
import Derived.Test.YtfignanjelebaaaYPut
namespace Go.Proofs.Ytfignanjelebaaa
open Go.RowKit
set_option linter.unusedVariables false
/-- All but two blocks is as it was. -/
structure But2 (g fm : Nat) (w w' : World) : Prop where
  os : w'.os = w.os
  tape : w'.tape = w.tape
  output : w'.output = w.output
  size : w.heap.size ≤ w'.heap.size
  block : ∀ i, i < w.heap.size → i ≠ g → i ≠ fm → w'.heap[i]? = w.heap[i]?
theorem But2.refl (g fm : Nat) (w : World) : But2 g fm w w := ⟨rfl, rfl, rfl, Nat.le_refl _, fun _ _ _ _ => rfl⟩
theorem But2.trans {g fm : Nat} {a b c : World} (h : But2 g fm a b) (k : But2 g fm b c) : But2 g fm a c :=
  ⟨k.os.trans h.os, k.tape.trans h.tape, k.output.trans h.output, Nat.le_trans h.size k.size, fun i hi h1 h2 => (k.block i (Nat.lt_of_lt_of_le hi h.size) h1 h2).trans (h.block i hi h1 h2)⟩
theorem But2.of_grown {g fm : Nat} {w w' : World} (h : w.grownBy w' (some fm)) : But2 g fm w w' := ⟨h.os, h.tape, h.output, h.size, fun i hi _ h2 => h.block i hi fun e => h2 (by injection e)⟩
theorem But2.of_set {g fm : Nat} (w : World) (o : Nat) (u : Value) : But2 g fm w (w.setCell ⟨g, o, none⟩ u) :=
  ⟨rfl, rfl, rfl, by simp [World.setCell], fun i _ h1 _ => Below.heap_setCell _ _ _ _ h1⟩
theorem But2.of_below {g fm : Nat} {w w' : World} (h : Below w.heap.size w w') : But2 g fm w w' := ⟨h.os, h.tape, h.output, h.size, fun i hi _ _ => h.block i hi⟩
theorem But2.below {g fm B : Nat} {w w' : World} (h : But2 g fm w w') (hg : B ≤ g) (hm : B ≤ fm) (hB : B ≤ w.heap.size) : Below B w w' := ⟨h.os, h.tape, h.output, h.size, fun i hi => h.block i (by omega) (by omega) (by omega)⟩
theorem Ptrs.but {g fm n : Nat} {A : Option Addr} {ps : List (Nat × Nat)} {w w' : World} (h : Ptrs w A n ps) (hk : But2 g fm w w') (hA : ∀ f, A = some ⟨f, 0, none⟩ → f ≠ g ∧ f ≠ fm) : Ptrs w' A n ps :=
  ⟨h.len, fun k hk' => by
    obtain ⟨f, e, C, t, fr, hc, ht, hp⟩ := h.cells k hk'
    exact ⟨f, e, C, t, fr, (hk.block f (lt_of_heap hc) (hA f e).1 (hA f e).2).trans hc, ht, hp⟩⟩
theorem FormAt.keep {w w' : World} {g : Nat} {l : List UInt8} {sh : Bool} (h : FormAt w g l sh) (hb : Below (g + 1) w w') : FormAt w' g l sh := by
  obtain ⟨A, n, c, hh, hB⟩ := h.ex
  exact ⟨A, n, c, (hb.block g (by omega)).trans hh, hB.below (hb.mono (by omega))⟩
theorem FormAt.set {w : World} {g fm o : Nat} {l : List UInt8} {sh : Bool} {u : Value} (h : FormAt w fm l sh) (hg : fm < g) : FormAt (w.setCell ⟨g, o, none⟩ u) fm l sh :=
  h.keep ((Below.refl _ w).setCell (p := ⟨g, o, none⟩) (by show fm + 1 ≤ g; omega) u)
/-- A number, a text of the form. -/
def RdQ (w : World) (g : Nat) (v : Value) (s : Rest) (e : Ending) (w' : World) : Prop := e = .returned v ∧ FormAt w' g s.1 s.2 ∧ w.grownBy w' (some g)
theorem rn_any (g : Nat) (s : Rest) (w : World) (h : FormAt w g s.1 s.2) : Calls Try.prog 47 #[.pointer (some ⟨g, 0, none⟩)] w (RdQ w g (iv (rn s).1) (rn s).2) := by
  unfold rn
  by_cases hs : s.1.length < 4
  · rw [if_pos hs]
    exact fnum_no g s.1 s.2 w h hs
  · rw [if_neg hs]
    exact fnum_yes g s.1 s.2 w h (by omega)
theorem rt_any (g : Nat) (s : Rest) (w : World) (h : FormAt w g s.1 s.2) : Calls Try.prog 49 #[.pointer (some ⟨g, 0, none⟩)] w (RdQ w g (.string ⟨(rt s).1.toArray⟩) (rt s).2) := by
  unfold rt
  by_cases hs : s.1.length < 2
  · rw [if_pos hs]
    exact ftext_short g s.1 s.2 w h hs
  · rw [if_neg hs]
    by_cases hx : (s.1.drop 2).length < big (s.1.take 2)
    · rw [if_pos hx]
      exact ftext_no g s.1 s.2 w h (by omega) hx
    · rw [if_neg hx]
      exact ftext_yes g s.1 s.2 w h (by omega) (by omega)
def rdI (s : Rest) : Value × Rest := (iv (rn s).1, (rn s).2)
def rdS (s : Rest) : Value × Rest := (.string ⟨(rt s).1.toArray⟩, (rt s).2)
/-- Fields that are read, one after another, into cells. -/
def rdF (rd : Rest → Value × Rest) (os : List Nat) (st : List Value × Rest) : List Value × Rest := os.foldl (fun st o => (st.1.set o (rd st.2).1, (rd st.2).2)) st
theorem rdF_take {rd : Rest → Value × Rest} {os : List Nat} {st : List Value × Rest} {k : Nat} (h : k < os.length) : rdF rd (os.take (k + 1)) st = ((rdF rd (os.take k) st).1.set os[k] (rd (rdF rd (os.take k) st).2).1, (rd (rdF rd (os.take k) st).2).2) := by
  unfold rdF
  rw [List.take_succ_eq_append_getElem h, List.foldl_append]
  rfl
theorem rdF_len (rd : Rest → Value × Rest) (os : List Nat) (st : List Value × Rest) : (rdF rd os st).1.length = st.1.length := by
  induction os generalizing st with
  | nil => rfl
  | cons o os ih =>
    unfold rdF at ih ⊢
    rw [List.foldl_cons, ih, List.length_set]
def GetQ (w : World) (g fm : Nat) (t : TypeId) (st : List Value × Rest) (e : Ending) (w' : World) : Prop :=
  e = .returned (.tuple #[]) ∧ w'.heap[g]? = some (.cells st.1.toArray t (0, 0)) ∧ FormAt w' fm st.2.1 st.2.2 ∧ But2 g fm w w'
set_option maxHeartbeats 2000000 in
theorem getI_any (os : List Nat) (A : Option Addr) (n c g fm : Nat) (t : TypeId) (C : List Value) (s : Rest) (w : World) (hn : n ≤ 9223372036854775807) (hA : Ptrs w A n (os.map fun o => (g, o))) (hAg : ∀ f, A = some ⟨f, 0, none⟩ → f ≠ g ∧ f ≠ fm)
    (hg : w.heap[g]? = some (.cells C.toArray t (0, 0))) (ho : ∀ o ∈ os, o < C.length) (hf : FormAt w fm s.1 s.2) (hfg : fm < g) :
    Calls Try.prog 46 #[.func (.func 47) #[.pointer (some ⟨fm, 0, none⟩)] #[], .slice A n c] w (GetQ w g fm t (rdF rdI os (C, s))) := by
  have HA := Lib.hid hA
  have HAG := Lib.hid hAg
  have HO := Lib.hid ho
  have HG := Lib.hid hg
  have HF := Lib.hid hf
  have hol : os.length = n := by rw [← hA.len, List.length_map]
  clear hA hAg hg ho hf
  go_enter Try.func46, Try.ntmps46
  go_wp2_with fail
  go_loopw [8] (fun i wr => ∃ k : Nat, k ≤ n ∧ i = .int .i64 k ∧ Hid (wr.heap[g]? = some (.cells (rdF rdI (os.take k) (C, s)).1.toArray t (0, 0))) ∧ Hid (FormAt wr fm (rdF rdI (os.take k) (C, s)).2.1 (rdF rdI (os.take k) (C, s)).2.2) ∧ Hid (But2 g fm w wr)) (fun i _ => n - (intOf i).toNat)
  case atStart => exact ⟨0, Nat.zero_le _, rfl, HG, HF, But2.refl _ _ _⟩
  case round =>
    obtain ⟨k, hk, rfl, HGk, HFk, HK⟩ := hrel
    by_cases hlt : k < n
    · have hko : k < os.length := by omega
      obtain ⟨f, hAe, hc⟩ := (HA.out.but HK.out HAG.out).at_ (by rw [List.length_map]; exact hko)
      have hoo := HO.out os[k] (List.getElem_mem hko)
      have E := Lib.hid (rdF_take (rd := rdI) (st := (C, s)) hko)
      have hsl := rdF_len rdI (os.take k) (C, s)
      rw [List.getElem_map] at hc
      generalize rdF rdI (os.take k) (C, s) = st at *
      generalize os[k] = o at *
      obtain ⟨Ck, sk⟩ := st
      simp only at hsl
      subst hAe
      unfold PV at hc
      go_wp2_with fail
      refine (rn_any fm sk wr HFk.out).mono ?_
      rintro e w1 ⟨rfl, hf1, hg1⟩
      have hG1 : w1.heap[g]? = some (.cells Ck.toArray t (0, 0)) := (hg1.block g (lt_of_heap HGk.out) (fun e => by injection e; omega)).trans HGk.out
      obtain ⟨u, hu⟩ : ∃ u, Ck[o]? = some u := ⟨_, List.getElem?_eq_getElem (by omega)⟩
      have hc0 : w1.cell? ⟨g, o, none⟩ = some u := by rw [cell_in hG1]; simpa using hu
      have hf0 := free_in hG1 o
      have HS := Lib.hid (heap_set hG1 o (iv (rn sk).1))
      have HF1 := Lib.hid (hf1.set (o := o) (u := (iv (rn sk).1)) hfg)
      have HK1 := Lib.hid (HK.out.trans ((But2.of_grown hg1).trans (But2.of_set w1 o (iv (rn sk).1))))
      clear hc hu hf1 hg1 hG1
      unfold iv at *
      go_wp2_with fail
      go_roundw
      case rel =>
        refine ⟨k + 1, by omega, by go_num, ?_, ?_, HK1⟩
        · rw [E.out]
          refine Lib.hid (HS.out.trans ?_)
          simp [rdI, iv]
        · rw [E.out]
          exact HF1
      case measure => simp [intOf]; omega
    · obtain rfl : k = n := by omega
      have e : os.take k = os := List.take_of_length_le (by omega)
      rw [e] at HGk HFk
      go_wp2_with fail
      go_end0
      exact ⟨rfl, HGk.out, HFk.out, HK.out⟩
set_option maxHeartbeats 2000000 in
theorem getS_any (os : List Nat) (A : Option Addr) (n c g fm : Nat) (t : TypeId) (C : List Value) (s : Rest) (w : World) (hn : n ≤ 9223372036854775807) (hA : Ptrs w A n (os.map fun o => (g, o))) (hAg : ∀ f, A = some ⟨f, 0, none⟩ → f ≠ g ∧ f ≠ fm)
    (hg : w.heap[g]? = some (.cells C.toArray t (0, 0))) (ho : ∀ o ∈ os, o < C.length) (hf : FormAt w fm s.1 s.2) (hfg : fm < g) :
    Calls Try.prog 48 #[.func (.func 49) #[.pointer (some ⟨fm, 0, none⟩)] #[], .slice A n c] w (GetQ w g fm t (rdF rdS os (C, s))) := by
  have HA := Lib.hid hA
  have HAG := Lib.hid hAg
  have HO := Lib.hid ho
  have HG := Lib.hid hg
  have HF := Lib.hid hf
  have hol : os.length = n := by rw [← hA.len, List.length_map]
  clear hA hAg hg ho hf
  go_enter Try.func48, Try.ntmps48
  go_wp2_with fail
  go_loopw [8] (fun i wr => ∃ k : Nat, k ≤ n ∧ i = .int .i64 k ∧ Hid (wr.heap[g]? = some (.cells (rdF rdS (os.take k) (C, s)).1.toArray t (0, 0))) ∧ Hid (FormAt wr fm (rdF rdS (os.take k) (C, s)).2.1 (rdF rdS (os.take k) (C, s)).2.2) ∧ Hid (But2 g fm w wr)) (fun i _ => n - (intOf i).toNat)
  case atStart => exact ⟨0, Nat.zero_le _, rfl, HG, HF, But2.refl _ _ _⟩
  case round =>
    obtain ⟨k, hk, rfl, HGk, HFk, HK⟩ := hrel
    by_cases hlt : k < n
    · have hko : k < os.length := by omega
      obtain ⟨f, hAe, hc⟩ := (HA.out.but HK.out HAG.out).at_ (by rw [List.length_map]; exact hko)
      have hoo := HO.out os[k] (List.getElem_mem hko)
      have E := Lib.hid (rdF_take (rd := rdS) (st := (C, s)) hko)
      have hsl := rdF_len rdS (os.take k) (C, s)
      rw [List.getElem_map] at hc
      generalize rdF rdS (os.take k) (C, s) = st at *
      generalize os[k] = o at *
      obtain ⟨Ck, sk⟩ := st
      simp only at hsl
      subst hAe
      unfold PV at hc
      go_wp2_with fail
      refine (rt_any fm sk wr HFk.out).mono ?_
      rintro e w1 ⟨rfl, hf1, hg1⟩
      have hG1 : w1.heap[g]? = some (.cells Ck.toArray t (0, 0)) := (hg1.block g (lt_of_heap HGk.out) (fun e => by injection e; omega)).trans HGk.out
      obtain ⟨u, hu⟩ : ∃ u, Ck[o]? = some u := ⟨_, List.getElem?_eq_getElem (by omega)⟩
      have hc0 : w1.cell? ⟨g, o, none⟩ = some u := by rw [cell_in hG1]; simpa using hu
      have hf0 := free_in hG1 o
      have HS := Lib.hid (heap_set hG1 o (.string ⟨(rt sk).1.toArray⟩))
      have HF1 := Lib.hid (hf1.set (o := o) (u := (.string ⟨(rt sk).1.toArray⟩)) hfg)
      have HK1 := Lib.hid (HK.out.trans ((But2.of_grown hg1).trans (But2.of_set w1 o (.string ⟨(rt sk).1.toArray⟩))))
      clear hc hu hf1 hg1 hG1
      go_wp2_with fail
      go_roundw
      case rel =>
        refine ⟨k + 1, by omega, by go_num, ?_, ?_, HK1⟩
        · rw [E.out]
          refine Lib.hid (HS.out.trans ?_)
          simp [rdS]
        · rw [E.out]
          exact HF1
      case measure => simp [intOf]; omega
    · obtain rfl : k = n := by omega
      have e : os.take k = os := List.take_of_length_le (by omega)
      rw [e] at HGk HFk
      go_wp2_with fail
      go_end0
      exact ⟨rfl, HGk.out, HFk.out, HK.out⟩
theorem rt_len (s : Rest) : (rt s).1.length ≤ 65535 := by
  unfold rt
  split
  · simp
  · split
    · simp
    · rename_i h1 h2
      have := big_lt (s.1.take 2)
      rw [List.length_take_of_le (by omega)] at this
      simp only [List.length_take]
      omega
def UnbQ (w : World) (fm : Nat) (s : Rest) (e : Ending) (w' : World) : Prop := ∃ b n c, e = .returned (.slice (some ⟨b, 0, none⟩) n c) ∧ w.heap.size ≤ b ∧ Bts w' w'.heap.size (some ⟨b, 0, none⟩) n c (rt s).1 ∧ FormAt w' fm (rt s).2.1 (rt s).2.2 ∧ w.grownBy w' (some fm)
set_option maxHeartbeats 1000000 in
theorem unbulk1_any (cl fm : Nat) (fr : Nat × Nat) (s : Rest) (w : World) (h : w.heap[cl]? = some (.cells #[.pointer (some ⟨fm, 0, none⟩)] 84 fr)) (hf : FormAt w fm s.1 s.2) : Calls Try.prog 73 #[.pointer (some ⟨cl, 0, none⟩)] w (UnbQ w fm s) := by
  have hc : w.cell? ⟨cl, 0, none⟩ = some (.pointer (some ⟨fm, 0, none⟩)) := by rw [cell_of_row w cl 0 _ 84 fr h]; rfl
  have HF := Lib.hid hf
  clear h hf
  go_enter Try.func73, Try.ntmps73
  go_wp2_with fail
  refine (rt_any fm s w HF.out).mono ?_
  rintro e w1 ⟨rfl, hf1, hg1⟩
  have HF1 := Lib.hid hf1
  have HG1 := Lib.hid hg1
  have hsz : (ByteArray.mk (rt s).1.toArray).size = (rt s).1.length := rfl
  have hcv := run_bytes_of_string (P := Try.prog) w1 9 24 5 ⟨(rt s).1.toArray⟩ Try.underlying9 Try.underlying24 Try.underlying5
  have HB := Lib.hid (bytes_bts w1 ⟨(rt s).1.toArray⟩ (rt_len s))
  clear hf1 hg1 hc
  go_wp2
  go_ret
  have hb2 : Below w1.heap.size w1 (w1.drew.alloc (.cells (bytesRow ⟨(rt s).1.toArray⟩ (grownCap w1 (ByteArray.mk (rt s).1.toArray).size 0 5)) 5 ((bytesRow ⟨(rt s).1.toArray⟩ (grownCap w1 (ByteArray.mk (rt s).1.toArray).size 0 5)).size, (bytesRow ⟨(rt s).1.toArray⟩ (grownCap w1 (ByteArray.mk (rt s).1.toArray).size 0 5)).size + 1))) := ((Below.refl _ w1).drew).alloc (Nat.le_refl _) _
  exact ⟨_, _, _, rfl, HG1.out.size, HB.out.more (by simp), HF1.out.below hb2, grown_trans HG1.out (grown_of_below hb2 _)⟩
/-- What getB leaves. -/
def GetBQ (w : World) (g fm o : Nat) (t : TypeId) (C : List Value) (s : Rest) (e : Ending) (w' : World) : Prop :=
  ∃ A n c, e = .returned (.tuple #[]) ∧ w'.heap[g]? = some (.cells (C.set o (.slice A n c)).toArray t (0, 0)) ∧ Bts w' w'.heap.size A n c (rt s).1 ∧ FormAt w' fm (rt s).2.1 (rt s).2.2 ∧ But2 g fm w w'
set_option maxHeartbeats 2000000 in
theorem getB_any (o f g fm cl : Nat) (fr : Nat × Nat) (t : TypeId) (C : List Value) (s : Rest) (w : World) (hA : w.cell? ⟨f, 0, none⟩ = some (.pointer (some ⟨g, o, none⟩)))
    (hg : w.heap[g]? = some (.cells C.toArray t (0, 0))) (hcl : w.heap[cl]? = some (.cells #[.pointer (some ⟨fm, 0, none⟩)] 84 fr)) (ho : o < C.length) (hf : FormAt w fm s.1 s.2) (hfg : fm < g) (ht : t ≠ 5) :
    Calls Try.prog 50 #[.func (.func 73) #[] #[.pointer (some ⟨cl, 0, none⟩)], .slice (some ⟨f, 0, none⟩) 1 1] w (GetBQ w g fm o t C s) := by
  have HF := Lib.hid hf
  have HG := Lib.hid hg
  have HC := Lib.hid hcl
  clear hf hg hcl
  go_enter Try.func50, Try.ntmps50
  go_wp2_with fail
  go_loopw [8] (fun i wr => (i = .int .i64 0 ∧ wr = w) ∨ (i = .int .i64 1 ∧ Hid (GetBQ w g fm o t C s (.returned (.tuple #[])) wr))) (fun i _ => 1 - (intOf i).toNat)
  case atStart => exact .inl ⟨rfl, rfl⟩
  case round =>
    rcases hrel with ⟨rfl, rfl⟩ | ⟨rfl, HQ⟩
    · go_wp2_with fail
      refine (unbulk1_any cl fm fr s _ HC.out HF.out).mono ?_
      rintro e w1 ⟨ab, n, c, rfl, hab, hb1, hf1, hg1⟩
      have hG1 : w1.heap[g]? = some (.cells C.toArray t (0, 0)) := (hg1.block g (lt_of_heap HG.out) (fun e => by injection e; omega)).trans HG.out
      obtain ⟨u, hu⟩ : ∃ u, C[o]? = some u := ⟨_, List.getElem?_eq_getElem ho⟩
      have hc0 : w1.cell? ⟨g, o, none⟩ = some u := by rw [cell_in hG1]; simpa using hu
      have hf0 := free_in hG1 o
      have HS := Lib.hid (heap_set hG1 o (.slice (some ⟨ab, 0, none⟩) n c))
      have HF1 := Lib.hid (hf1.set (o := o) (u := .slice (some ⟨ab, 0, none⟩) n c) hfg)
      have HK1 := Lib.hid ((But2.of_grown hg1).trans (But2.of_set (g := g) w1 o (.slice (some ⟨ab, 0, none⟩) n c)))
      have HB1 : Hid (Bts (w1.setCell ⟨g, o, none⟩ (.slice (some ⟨ab, 0, none⟩) n c)) (w1.setCell ⟨g, o, none⟩ (.slice (some ⟨ab, 0, none⟩) n c)).heap.size (some ⟨ab, 0, none⟩) n c (rt s).1) := by
        refine Bts.more (B := w1.heap.size) ⟨hb1.len, hb1.cap, hb1.lim, hb1.nil, fun h0 => ?_⟩ (by simp [World.setCell])
        obtain ⟨b, off, e, hb, hcc⟩ := hb1.at_ h0
        refine ⟨b, off, e, hb, fun j hj => ?_⟩
        rw [← hcc j hj]
        refine World.cell?_of_block (Below.heap_setCell _ _ _ _ fun e2 => ?_)
        have hgl := lt_of_heap HG.out
        cases e
        simp only at e2
        omega
      clear hu hf1 hg1 hG1 hb1
      go_wp2_with fail
      go_roundw
      case rel =>
        refine .inr ⟨by go_num, _, n, c, rfl, Lib.hid ?_, HB1, HF1, HK1⟩
        exact HS.out.trans (by simp)
      case measure => simp [intOf]
    · go_wp2_with fail
      go_end0
      exact HQ.out
end Go.Proofs.Ytfignanjelebaaa
