/- package verb: what is kept while fields are written; pointers to fields; put, at numbers, texts and bytes. -/
import Derived.Test.YtfignanjelebaaaVRefA
import Derived.Test.YtfignanjelebaaaVPlain
namespace Go.Proofs.Ytfignanjelebaaa
open Go.RowKit
set_option linter.unusedVariables false
/-- A pointer to a cell. -/
def PV (p : Nat × Nat) : Value := .pointer (some ⟨p.1, p.2, none⟩)
/-- What lies below base, and every block that holds no bytes, is as it was. -/
structure Kps (base : Nat) (w w' : World) : Prop where
  os : w'.os = w.os
  tape : w'.tape = w.tape
  output : w'.output = w.output
  size : w.heap.size ≤ w'.heap.size
  block : ∀ i, i < w.heap.size → (i < base ∨ ∃ C t fr, w.heap[i]? = some (.cells C t fr) ∧ t ≠ 5) → w'.heap[i]? = w.heap[i]?
theorem Kps.refl (base : Nat) (w : World) : Kps base w w := ⟨rfl, rfl, rfl, Nat.le_refl _, fun _ _ _ => rfl⟩
theorem Kps.trans {base : Nat} {a b c : World} (h : Kps base a b) (k : Kps base b c) : Kps base a c :=
  ⟨k.os.trans h.os, k.tape.trans h.tape, k.output.trans h.output, Nat.le_trans h.size k.size, fun i hi hs => by
    have e := h.block i hi hs
    refine (k.block i (Nat.lt_of_lt_of_le hi h.size) ?_).trans e
    rcases hs with hs | ⟨C, t, fr, hc, ht⟩
    · exact .inl hs
    · exact .inr ⟨C, t, fr, e.trans hc, ht⟩⟩
theorem Kps.of_below {base : Nat} {w w' : World} (h : Below w.heap.size w w') : Kps base w w' := ⟨h.os, h.tape, h.output, h.size, fun i hi _ => h.block i hi⟩
theorem Kps.below {base : Nat} {w w' : World} (h : Kps base w w') (hb : base ≤ w.heap.size) : Below base w w' := ⟨h.os, h.tape, h.output, h.size, fun i hi => h.block i (by omega) (.inl hi)⟩
theorem Kps.of_grown {base n : Nat} {v : Value} {xs : List Value} {w w' : World} (hv : w.ownsRow base 5 1 v n xs) (h : w.grownBy w' v.ownBlock) : Kps base w w' :=
  ⟨h.os, h.tape, h.output, h.size, fun i hi hs => h.block i hi fun e => by
    rcases hv.2 with ⟨rfl, _⟩ | ⟨g, cap, cur, rfl, hg, hh, _⟩
    · cases e
    · have e' : i = g := by injection e
      subst e'
      rcases hs with hs | ⟨C, t, fr, hc, ht⟩
      · omega
      · rw [hh] at hc
        injection hc with hc
        injection hc with _ hc _
        exact ht hc.symm⟩
/-- A slice of pointers, in a block that holds no bytes. -/
structure Ptrs (w : World) (A : Option Addr) (n : Nat) (ps : List (Nat × Nat)) : Prop where
  len : ps.length = n
  cells : ∀ k (h : k < ps.length), ∃ f, A = some ⟨f, 0, none⟩ ∧ ∃ C t fr, w.heap[f]? = some (.cells C t fr) ∧ t ≠ 5 ∧ C[k]? = some (PV ps[k])
theorem Ptrs.kps {base n : Nat} {A : Option Addr} {ps : List (Nat × Nat)} {w w' : World} (h : Ptrs w A n ps) (hk : Kps base w w') : Ptrs w' A n ps :=
  ⟨h.len, fun k hk' => by
    obtain ⟨f, e, C, t, fr, hc, ht, hp⟩ := h.cells k hk'
    exact ⟨f, e, C, t, fr, (hk.block f (lt_of_heap hc) (.inr ⟨C, t, fr, hc, ht⟩)).trans hc, ht, hp⟩⟩
theorem Ptrs.at_ {n k : Nat} {A : Option Addr} {ps : List (Nat × Nat)} {w : World} (h : Ptrs w A n ps) (hk : k < ps.length) : ∃ f, A = some ⟨f, 0, none⟩ ∧ w.cell? ⟨f, k, none⟩ = some (PV ps[k]) := by
  obtain ⟨f, e, C, t, fr, hc, ht, hp⟩ := h.cells k hk
  exact ⟨f, e, by rw [cell_of_row w f k C t fr hc]; exact hp⟩
/-- A block that no writing of bytes turns. -/
def Safe (base : Nat) (w : World) (b : Nat) : Prop := b < w.heap.size ∧ (b < base ∨ ∃ C t fr, w.heap[b]? = some (.cells C t fr) ∧ t ≠ 5)
theorem Safe.kps {base b : Nat} {w w' : World} (h : Safe base w b) (hk : Kps base w w') : Safe base w' b :=
  ⟨Nat.lt_of_lt_of_le h.1 hk.size, by
    rcases h.2 with h2 | ⟨C, t, fr, hc, ht⟩
    · exact .inl h2
    · exact .inr ⟨C, t, fr, (hk.block b h.1 h.2).trans hc, ht⟩⟩
theorem Safe.cell {base : Nat} {p : Addr} {w w' : World} (h : Safe base w p.block) (hk : Kps base w w') : w'.cell? p = w.cell? p := World.cell?_of_block (hk.block _ h.1 h.2)
/-- The fields that pointers point to. -/
def Flds (base : Nat) (w : World) (ps : List (Nat × Nat)) (vs : List Value) : Prop := ps.length = vs.length ∧ ∀ k (h : k < ps.length), Safe base w ps[k].1 ∧ w.cell? ⟨ps[k].1, ps[k].2, none⟩ = some (vs[k]?.getD undef)
theorem Flds.kps {base : Nat} {w w' : World} {ps : List (Nat × Nat)} {vs : List Value} (h : Flds base w ps vs) (hk : Kps base w w') : Flds base w' ps vs :=
  ⟨h.1, fun k hk' => ⟨(h.2 k hk').1.kps hk, ((h.2 k hk').1.cell (p := ⟨_, _, none⟩) hk).trans (h.2 k hk').2⟩⟩
/-- A slice of bytes of the call's own. -/
def Byt (base : Nat) (w : World) (v : Value) (l : List UInt8) : Prop := w.ownsRow base 5 1 v l.length (l.map bv)
theorem Byt.nil_ (base : Nat) (w : World) : Byt base w (.slice none 0 0) [] := World.ownsRow_nil _ _ _ _
/-- Fields written behind bytes. -/
def PutQ (base : Nat) (w : World) (l : List UInt8) (e : Ending) (w' : World) : Prop := ∃ v', e = .returned v' ∧ Byt base w' v' l ∧ Kps base w w'
theorem flat_take {α : Type} {xs : List α} {enc : α → List UInt8} {k : Nat} (h : k < xs.length) : (xs.take (k + 1)).flatMap enc = (xs.take k).flatMap enc ++ enc xs[k] := by
  rw [List.take_succ_eq_append_getElem h, List.flatMap_append, List.flatMap_cons, List.flatMap_nil, List.append_nil]
theorem flat_le {α : Type} (xs : List α) (enc : α → List UInt8) (k : Nat) (h : k < xs.length) : ((xs.take k).flatMap enc).length + (enc xs[k]).length ≤ (xs.flatMap enc).length := by
  have e : xs.flatMap enc = (xs.take (k + 1)).flatMap enc ++ (xs.drop (k + 1)).flatMap enc := by rw [← List.flatMap_append, List.take_append_drop]
  rw [e, flat_take h]
  simp only [List.length_append]
  omega
set_option maxHeartbeats 1000000 in
theorem bulk_any (A : Option Addr) (n c B : Nat) (d : List UInt8) (w : World) (h : Bts w B A n c d) (hB : B ≤ w.heap.size) (hd : d.length ≤ 65535) : Calls Try.prog 35 #[.slice none 0 0, .slice A n c] w (Gives2 w (txt d)) := by
  have hsz : (ByteArray.mk d.toArray).size = d.length := rfl
  have hcv := h.str w (fun _ _ => rfl)
  go_enter Try.func35, Try.ntmps35
  go_wp2_with fail
  refine (text_yes none 0 0 0 [] ⟨d.toArray⟩ w hd (Bts.nil_ _ _) (Nat.zero_le _) (by omega)).mono ?_
  rintro e w1 ⟨v, rfl, hm⟩
  go_wp2
  go_ret2
  exact ⟨v, rfl, hm⟩
theorem Byt.keep_below {base : Nat} {w w' : World} {v : Value} {l : List UInt8} (h : Byt base w v l) (hb : Below w.heap.size w w') : Byt base w' v l := by
  refine ⟨h.1, ?_⟩
  rcases h.2 with h0 | ⟨g, cap, cur, e, hg, hh, r⟩
  · exact .inl h0
  · exact .inr ⟨g, cap, cur, e, hg, (hb.block g (lt_of_heap hh)).trans hh, r⟩
set_option maxHeartbeats 2000000 in
theorem putI_any (ps : List (Nat × Nat)) (xs : List Int) (A : Option Addr) (n c : Nat) (v : Value) (l : List UInt8) (base : Nat) (w : World) (hx : ∀ x ∈ xs, 0 ≤ x ∧ x < 4294967296) (hlen : l.length + (xs.flatMap (fun x : Int => lit 4 x.toNat)).length ≤ 140737488355328) (hn : n ≤ 9223372036854775807)
    (hb : base ≤ w.heap.size) (hv : Byt base w v l) (hA : Ptrs w A n ps) (hp : Flds base w ps (xs.map iv)) :
    Calls Try.prog 29 #[v, .func (.func 30) #[] #[], .slice A n c] w (PutQ base w (l ++ xs.flatMap (fun x : Int => lit 4 x.toNat))) := by
  have HX := Lib.hid hx
  have HV := Lib.hid hv
  have HA := Lib.hid hA
  have HP := Lib.hid hp
  have hpl : ps.length = n := hA.len
  have hxl : ps.length = xs.length := by rw [hp.1, List.length_map]
  clear hx hv hA hp
  go_enter Try.func29, Try.ntmps29
  go_wp2_with fail
  go_loopw [0, 13] (fun s i wr => ∃ k : Nat, ∃ v2, k ≤ n ∧ i = .int .i64 k ∧ s = v2 ∧ Hid (Byt base wr v2 (l ++ (xs.take k).flatMap (fun x : Int => lit 4 x.toNat))) ∧ Hid (Kps base w wr)) (fun _ i _ => n - (intOf i).toNat)
  case atStart => exact ⟨0, v, Nat.zero_le _, rfl, rfl, by simpa using HV, Kps.refl _ _⟩
  case round =>
    obtain ⟨k, v2, hk, rfl, rfl, HB, HK⟩ := hrel
    by_cases hlt : k < n
    · have hkp : k < ps.length := by omega
      have hkx : k < xs.length := by omega
      obtain ⟨f, hAe, hc⟩ := (HA.out.kps HK.out).at_ hkp
      have hc2 := ((HP.out.kps HK.out).2 k hkp).2
      have hxx := HX.out xs[k] (List.getElem_mem hkx)
      have E := Lib.hid (flat_take (enc := (fun x : Int => lit 4 x.toNat)) hkx)
      have hle := flat_le xs (fun x : Int => lit 4 x.toNat) k hkx
      have hval : ((xs.map iv)[k]?.getD undef) = iv xs[k] := by simp [hkx]
      rw [hval] at hc2
      clear hval
      generalize xs[k] = x at *
      generalize ps[k] = p at *
      obtain ⟨pb, po⟩ := p
      subst hAe
      unfold PV at hc
      obtain ⟨q, rfl⟩ := Int.eq_ofNat_of_zero_le hxx.1
      have hq : q < 4294967296 := by omega
      unfold iv at hc2
      go_wp2_with fail
      refine (num_yes none 0 0 0 q [] _ hq (Bts.nil_ _ _) (Nat.zero_le _) (by omega)).mono ?_
      rintro e w1 ⟨v1, rfl, hm⟩
      simp only [List.nil_append] at hm
      simp only [Int.toNat_natCast] at hle
      have E := Lib.hid (show _ = _ ++ lit 4 q from E.out)
      have HK1 := Lib.hid (HK.out.trans (Kps.of_below (base := base) hm.bel))
      obtain ⟨A1, n1, c1, rfl, hB1⟩ := hm.holds
      have hb1 : base ≤ w1.heap.size := Nat.le_trans hb HK1.out.size
      have hbyt := HB.out.keep_below hm.bel
      obtain ⟨v', w', hr, ho', hgr⟩ := app_run 24 hbyt hB1 (by rw [List.length_append]; omega) hb1
      have HR := Lib.hid hr
      have HO := Lib.hid (show Byt base w' v' (l ++ (xs.take (k + 1)).flatMap (fun x : Int => lit 4 x.toNat)) by rw [E.out, ← List.append_assoc]; exact ho')
      have HK2 := Lib.hid (HK1.out.trans (Kps.of_grown hbyt hgr))
      clear hr ho' hgr hbyt hB1 hm hc hc2 hle
      go_wp2_with (at_builtin; refine Lib.wpList_append_run _ rfl _ _ _ _ rfl _ _ rfl rfl _ _ HR.out ?_)
      go_roundw
      case rel => exact ⟨k + 1, v', by omega, by go_num, rfl, HO, HK2⟩
      case measure => simp [intOf]; omega
    · obtain rfl : k = n := by omega
      have e : xs.take k = xs := List.take_of_length_le (by omega)
      have HB' := Lib.hid (show Byt base wr _ (l ++ xs.flatMap (fun x : Int => lit 4 x.toNat)) by have := HB.out; rw [e] at this; exact this)
      go_wp2_with fail
      go_ret
      exact ⟨_, rfl, HB'.out, HK.out⟩
set_option maxHeartbeats 2000000 in
theorem putS_any (ps : List (Nat × Nat)) (xs : List (List UInt8)) (A : Option Addr) (n c : Nat) (v : Value) (l : List UInt8) (base : Nat) (w : World) (hx : ∀ x ∈ xs, x.length ≤ 65535) (hlen : l.length + (xs.flatMap txt).length ≤ 140737488355328) (hn : n ≤ 9223372036854775807)
    (hb : base ≤ w.heap.size) (hv : Byt base w v l) (hA : Ptrs w A n ps) (hp : Flds base w ps (xs.map (fun s : List UInt8 => Value.string ⟨s.toArray⟩))) :
    Calls Try.prog 32 #[v, .func (.func 33) #[] #[], .slice A n c] w (PutQ base w (l ++ xs.flatMap txt)) := by
  have HX := Lib.hid hx
  have HV := Lib.hid hv
  have HA := Lib.hid hA
  have HP := Lib.hid hp
  have hpl : ps.length = n := hA.len
  have hxl : ps.length = xs.length := by rw [hp.1, List.length_map]
  clear hx hv hA hp
  go_enter Try.func32, Try.ntmps32
  go_wp2_with fail
  go_loopw [0, 13] (fun s i wr => ∃ k : Nat, ∃ v2, k ≤ n ∧ i = .int .i64 k ∧ s = v2 ∧ Hid (Byt base wr v2 (l ++ (xs.take k).flatMap txt)) ∧ Hid (Kps base w wr)) (fun _ i _ => n - (intOf i).toNat)
  case atStart => exact ⟨0, v, Nat.zero_le _, rfl, rfl, by simpa using HV, Kps.refl _ _⟩
  case round =>
    obtain ⟨k, v2, hk, rfl, rfl, HB, HK⟩ := hrel
    by_cases hlt : k < n
    · have hkp : k < ps.length := by omega
      have hkx : k < xs.length := by omega
      obtain ⟨f, hAe, hc⟩ := (HA.out.kps HK.out).at_ hkp
      have hc2 := ((HP.out.kps HK.out).2 k hkp).2
      have hxx := HX.out xs[k] (List.getElem_mem hkx)
      have E := Lib.hid (flat_take (enc := txt) hkx)
      have hle := flat_le xs txt k hkx
      have hval : ((xs.map (fun s : List UInt8 => Value.string ⟨s.toArray⟩))[k]?.getD undef) = (fun s : List UInt8 => Value.string ⟨s.toArray⟩) xs[k] := by simp [hkx]
      rw [hval] at hc2
      clear hval
      generalize xs[k] = x at *
      generalize ps[k] = p at *
      obtain ⟨pb, po⟩ := p
      subst hAe
      unfold PV at hc
      simp only at hc2
      go_wp2_with fail
      refine (text_yes none 0 0 0 [] ⟨x.toArray⟩ _ hxx (Bts.nil_ _ _) (Nat.zero_le _) (by omega)).mono ?_
      rintro e w1 ⟨v1, rfl, hm⟩
      have hm : Mine _ _ _ (txt x) := hm
      have HK1 := Lib.hid (HK.out.trans (Kps.of_below (base := base) hm.bel))
      obtain ⟨A1, n1, c1, rfl, hB1⟩ := hm.holds
      have hb1 : base ≤ w1.heap.size := Nat.le_trans hb HK1.out.size
      have hbyt := HB.out.keep_below hm.bel
      obtain ⟨v', w', hr, ho', hgr⟩ := app_run 24 hbyt hB1 (by rw [List.length_append]; omega) hb1
      have HR := Lib.hid hr
      have HO := Lib.hid (show Byt base w' v' (l ++ (xs.take (k + 1)).flatMap txt) by rw [E.out, ← List.append_assoc]; exact ho')
      have HK2 := Lib.hid (HK1.out.trans (Kps.of_grown hbyt hgr))
      clear hr ho' hgr hbyt hB1 hm hc hc2 hle
      go_wp2_with (at_builtin; refine Lib.wpList_append_run _ rfl _ _ _ _ rfl _ _ rfl rfl _ _ HR.out ?_)
      go_roundw
      case rel => exact ⟨k + 1, v', by omega, by go_num, rfl, HO, HK2⟩
      case measure => simp [intOf]; omega
    · obtain rfl : k = n := by omega
      have e : xs.take k = xs := List.take_of_length_le (by omega)
      have HB' := Lib.hid (show Byt base wr _ (l ++ xs.flatMap txt) by have := HB.out; rw [e] at this; exact this)
      go_wp2_with fail
      go_ret
      exact ⟨_, rfl, HB'.out, HK.out⟩
set_option maxHeartbeats 2000000 in
theorem putB_any (ps : List (Nat × Nat)) (xs : List (Value × List UInt8)) (A : Option Addr) (n c : Nat) (v : Value) (l : List UInt8) (base : Nat) (w : World) (hx : ∀ x ∈ xs, Holds w base x.1 x.2 ∧ x.2.length ≤ 65535) (hlen : l.length + (xs.flatMap (fun x : Value × List UInt8 => txt x.2)).length ≤ 140737488355328) (hn : n ≤ 9223372036854775807)
    (hb : base ≤ w.heap.size) (hv : Byt base w v l) (hA : Ptrs w A n ps) (hp : Flds base w ps (xs.map (fun x : Value × List UInt8 => x.1))) :
    Calls Try.prog 34 #[v, .func (.func 35) #[] #[], .slice A n c] w (PutQ base w (l ++ xs.flatMap (fun x : Value × List UInt8 => txt x.2))) := by
  have HX := Lib.hid hx
  have HV := Lib.hid hv
  have HA := Lib.hid hA
  have HP := Lib.hid hp
  have hpl : ps.length = n := hA.len
  have hxl : ps.length = xs.length := by rw [hp.1, List.length_map]
  clear hx hv hA hp
  go_enter Try.func34, Try.ntmps34
  go_wp2_with fail
  go_loopw [0, 13] (fun s i wr => ∃ k : Nat, ∃ v2, k ≤ n ∧ i = .int .i64 k ∧ s = v2 ∧ Hid (Byt base wr v2 (l ++ (xs.take k).flatMap (fun x : Value × List UInt8 => txt x.2))) ∧ Hid (Kps base w wr)) (fun _ i _ => n - (intOf i).toNat)
  case atStart => exact ⟨0, v, Nat.zero_le _, rfl, rfl, by simpa using HV, Kps.refl _ _⟩
  case round =>
    obtain ⟨k, v2, hk, rfl, rfl, HB, HK⟩ := hrel
    by_cases hlt : k < n
    · have hkp : k < ps.length := by omega
      have hkx : k < xs.length := by omega
      obtain ⟨f, hAe, hc⟩ := (HA.out.kps HK.out).at_ hkp
      have hc2 := ((HP.out.kps HK.out).2 k hkp).2
      have hxx := HX.out xs[k] (List.getElem_mem hkx)
      have E := Lib.hid (flat_take (enc := (fun x : Value × List UInt8 => txt x.2)) hkx)
      have hle := flat_le xs (fun x : Value × List UInt8 => txt x.2) k hkx
      have hval : ((xs.map (fun x : Value × List UInt8 => x.1))[k]?.getD undef) = (fun x : Value × List UInt8 => x.1) xs[k] := by simp [hkx]
      rw [hval] at hc2
      clear hval
      generalize xs[k] = x at *
      generalize ps[k] = p at *
      obtain ⟨pb, po⟩ := p
      subst hAe
      unfold PV at hc
      obtain ⟨xv, xl⟩ := x
      obtain ⟨⟨A3, n3, c3, hv3, hB3⟩, hl3⟩ := hxx
      simp only at hv3 hl3 hB3
      subst hv3
      simp only at hc2
      have D3 := Lib.hid (hB3.below (HK.out.below hb))
      have hbr : base ≤ wr.heap.size := Nat.le_trans hb HK.out.size
      clear hB3
      go_wp2_with fail
      refine (bulk_any A3 n3 c3 base xl _ D3.out hbr hl3).mono ?_
      rintro e w1 ⟨v1, rfl, hm⟩
      have HK1 := Lib.hid (HK.out.trans (Kps.of_below (base := base) hm.bel))
      obtain ⟨A1, n1, c1, rfl, hB1⟩ := hm.holds
      have hb1 : base ≤ w1.heap.size := Nat.le_trans hb HK1.out.size
      have hbyt := HB.out.keep_below hm.bel
      obtain ⟨v', w', hr, ho', hgr⟩ := app_run 24 hbyt hB1 (by rw [List.length_append]; omega) hb1
      have HR := Lib.hid hr
      have HO := Lib.hid (show Byt base w' v' (l ++ (xs.take (k + 1)).flatMap (fun x : Value × List UInt8 => txt x.2)) by rw [E.out, ← List.append_assoc]; exact ho')
      have HK2 := Lib.hid (HK1.out.trans (Kps.of_grown hbyt hgr))
      clear hr ho' hgr hbyt hB1 hm hc hc2 hle
      go_wp2_with (at_builtin; refine Lib.wpList_append_run _ rfl _ _ _ _ rfl _ _ rfl rfl _ _ HR.out ?_)
      go_roundw
      case rel => exact ⟨k + 1, v', by omega, by go_num, rfl, HO, HK2⟩
      case measure => simp [intOf]; omega
    · obtain rfl : k = n := by omega
      have e : xs.take k = xs := List.take_of_length_le (by omega)
      have HB' := Lib.hid (show Byt base wr _ (l ++ xs.flatMap (fun x : Value × List UInt8 => txt x.2)) by have := HB.out; rw [e] at this; exact this)
      go_wp2_with fail
      go_ret
      exact ⟨_, rfl, HB'.out, HK.out⟩
end Go.Proofs.Ytfignanjelebaaa
