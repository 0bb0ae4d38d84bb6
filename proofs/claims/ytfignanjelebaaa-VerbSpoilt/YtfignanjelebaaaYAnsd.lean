/- package verb: Answered: the reply that a frame is. -/
import Derived.Test.YtfignanjelebaaaYDec
import Derived.Test.YtfignanjelebaaaYAns
namespace Go.Proofs.Ytfignanjelebaaa
open Go.RowKit
set_option linter.unusedVariables false
theorem Try.info9 : (Try.prog.info? 9).map (fun i => (i.zero, i.size, i.bytes)) = some (some (.string ⟨#[]⟩), 1, 16) := by kernel_rfl
def mks (k : Nat) : List Value := List.replicate k (.string ⟨#[]⟩)
theorem make42 (k : Nat) (hk : k ≤ 512) (w : World) : (Instr.makeSlice 42 (.int .i64 k) (.int .i64 k)).run Try.prog w = .ok (.slice (some ⟨w.heap.size, 0, none⟩) k k) (w.alloc (.cells (mks k).toArray 9)) := by
  obtain ⟨i0, hi, hz0, hz1, hz2⟩ := info_parts Try.info9
  have hr := run_make (P := Try.prog) w 42 9 i0 _ Try.underlying42 hi hz0 .i64 .i64 k k (by omega) (by omega) (by rw [hz2]; omega) (by omega)
  rw [hr, hz1]
  have e : madeCells (Value.string ⟨#[]⟩).cells ((k : Int).toNat * 1) = (mks k).toArray := by
    apply Array.ext'
    have h1 : (Value.string ⟨#[]⟩).cells = #[Value.string ⟨#[]⟩] := rfl
    rw [h1, toList_madeCells_one]
    simp [mks]
  rw [e]
  simp
theorem fillS_mid (xs : List (List UInt8)) (P R : List Value) (hR : R.length = xs.length) : fillS (P ++ R) ((List.range xs.length).map (P.length + ·)) xs = P ++ xs.map (fun x : List UInt8 => Value.string ⟨x.toArray⟩) := by
  induction xs generalizing P R with
  | nil =>
    obtain rfl : R = [] := List.length_eq_zero_iff.1 hR
    rfl
  | cons x xs ih =>
    match R, hR with
    | r :: R, hR =>
      have e1 : (List.range (x :: xs).length).map (P.length + ·) = P.length :: (List.range xs.length).map ((P ++ [Value.string ⟨x.toArray⟩]).length + ·) := by
        rw [List.length_cons, List.range_succ_eq_map]
        simp only [List.map_cons, List.map_map, Nat.add_zero, List.length_append, List.length_cons, List.length_nil, Nat.zero_add]
        congr 1
        apply List.map_congr_left
        intro a _
        simp only [Function.comp]
        omega
      rw [e1]
      show fillS ((P ++ r :: R).set P.length (.string ⟨x.toArray⟩)) _ xs = _
      have e2 : (P ++ r :: R).set P.length (Value.string ⟨x.toArray⟩) = (P ++ [Value.string ⟨x.toArray⟩]) ++ R := by
        rw [List.set_append_right _ _ (Nat.le_refl _), Nat.sub_self]
        simp
      rw [e2, ih _ R (by simpa using hR)]
      simp
theorem fillS_all (xs : List (List UInt8)) (k : Nat) (hk : xs.length = k) : fillS (mks k) (List.range k) xs = xs.map (fun x : List UInt8 => Value.string ⟨x.toArray⟩) := by
  subst hk
  have := fillS_mid xs [] (mks xs.length) (by simp [mks])
  simpa using this
theorem rn_nonneg (s : Rest) : ∃ k : Nat, (rn s).1 = (k : Int) := by
  unfold rn
  split
  · exact ⟨0, rfl⟩
  · exact ⟨_, rfl⟩
/-- What Answered reads, one step after the other. -/
theorem ans_read (l : List UInt8) : ∃ (r : Rp) (s1 s2 s3 s4 : Rest) (C1 : List Value) (k : Nat), rdF rdI rOs (rc zeroR none 0 0 none 0 0, (l, false)) = (C1, s1) ∧ C1.length = 12 ∧ (∀ A n c, C1.set 10 (.slice A n c) = rc r A n c none 0 0) ∧ (rt s1).1 = r.d ∧ (rt s1).2 = s2 ∧ (rn s2).1 = (k : Int) ∧ (rn s2).2 = s3 ∧ rts k s3 = (r.ns, s4) ∧ r.ns.length = k ∧ (s4 = ([], false) → l = r.body) ∧ ∀ r' : Rp, r'.Good → l = r'.body → r = r' ∧ k ≤ 512 ∧ s4 = ([], false) := by
  obtain ⟨x0, x1, x2, x3, x4, x5, x6, x7, x8, x9, e⟩ := len10 (rns_len 10 (l, false))
  have e10 : rdF rdI rOs (rc zeroR none 0 0 none 0 0, (l, false)) = (fillI (rc zeroR none 0 0 none 0 0) rOs (rns 10 (l, false)).1, (rns 10 (l, false)).2) := rdF_I rOs _ _
  have hw : ∀ r' : Rp, r'.Good → l = r'.body → (rns 10 (l, false)).1 = r'.xs ∧ (rt (rns 10 (l, false)).2).1 = r'.d ∧ (rn (rt (rns 10 (l, false)).2).2).1 = (r'.ns.length : Int) ∧ (rn (rt (rns 10 (l, false)).2).2).2 = (r'.ns.flatMap txt, false) := fun r' hr e => by
    have h := rdR_write r' hr
    rw [← e] at h
    unfold rdR at h
    simp only [Prod.mk.injEq] at h
    exact ⟨h.1, h.2.1, h.2.2.1, h.2.2.2⟩
  have hb10 := @rns_back 10 (l, false)
  have hs10 := @rns_short 10 (l, false)
  rw [e] at e10 hw hb10
  generalize (rns 10 (l, false)).2 = s1 at *
  have hbt := @rt_back s1
  have hst := @rt_short s1
  generalize ht0 : (rt s1).1 = t0 at *
  obtain ⟨k, hk⟩ := rn_nonneg (rt s1).2
  have hbn := @rn_back (rt s1).2
  have hsn := @rn_short (rt s1).2
  rw [hk] at hw hbn
  generalize hs3 : (rn (rt s1).2).2 = s3 at *
  have hbs := @rts_back k s3
  have hss := @rts_short k s3
  have hlen := rts_len k s3
  obtain ⟨ts, s4, hts⟩ : ∃ ts s4, rts k s3 = (ts, s4) := ⟨_, _, rfl⟩
  rw [hts] at hbs hss hlen
  simp only at hbs hss hlen
  refine ⟨⟨x0, x1, x2, x3, x4, x5, x6, x7, x8, x9, t0, ts⟩, s1, (rt s1).2, s3, s4, _, k, e10, rfl, fun _ _ _ => rfl, ht0, rfl, hk, hs3, hts, hlen, ?_, ?_⟩
  · rintro rfl
    have q3 := hss rfl
    obtain ⟨a1, _, _⟩ := hbs rfl
    have q2 := hsn q3
    obtain ⟨a2, _, _⟩ := hbn q3
    have q1 := hst q2
    obtain ⟨a3, _⟩ := hbt q2
    obtain ⟨a4, _, _⟩ := hb10 q1
    have a4 : l = nums [x0, x1, x2, x3, x4, x5, x6, x7, x8, x9] ++ s1.1 := a4
    rw [a4, a3, a2, a1]
    simp only [Int.toNat_natCast, List.append_nil, Rp.body, hlen]
    rfl
  · intro r' hr e'
    obtain ⟨h1, h2, h3, h4⟩ := hw r' hr e'
    have hkl : k = r'.ns.length := by omega
    have hnm := rts_names r' hr
    rw [← hkl, ← h4, hts] at hnm
    simp only [Prod.mk.injEq] at hnm
    have hlow := hr.1.2.2.2.1
    refine ⟨Rp.ext_of h1 h2 hnm.1, by omega, hnm.2⟩
/-- A slice of bytes lies in no block that holds none. -/
theorem Bts.but2 {w w' : World} {B g f n c : Nat} {A : Option Addr} {l : List UInt8} {C C' : Array Value} {t t' : TypeId} {fr fr' : Nat × Nat} (h : Bts w B A n c l) (hB : B ≤ w.heap.size) (hk : But2 g f w w') (hg : w.heap[g]? = some (.cells C t fr)) (hC : ∀ (o : Nat) (x : Int), C[o]? ≠ some (Value.int .u8 x)) (hf : w.heap[f]? = some (.cells C' t' fr')) (hC' : ∀ (o : Nat) (x : Int), C'[o]? ≠ some (Value.int .u8 x)) : Bts w' B A n c l :=
  ⟨h.len, h.cap, h.lim, h.nil, fun hn => by
    obtain ⟨b, off, e, hb, hc⟩ := h.at_ hn
    refine ⟨b, off, e, hb, fun j hj => ?_⟩
    rw [← hc j hj]
    refine World.cell?_of_block (hk.block b (by omega) (fun e2 => ?_) (fun e2 => ?_))
    · have h2 := hc 0 hn
      subst e2
      rw [cell_of_row w b _ _ t fr hg] at h2
      exact hC _ _ h2
    · have h2 := hc 0 hn
      subst e2
      rw [cell_of_row w b _ _ t' fr' hf] at h2
      exact hC' _ _ h2⟩
theorem FormAt.no_u8 {w : World} {g : Nat} {l : List UInt8} {sh : Bool} (h : FormAt w g l sh) : ∃ C : Array Value, w.heap[g]? = some (.cells C 118 (0, 0)) ∧ ∀ (o : Nat) (x : Int), C[o]? ≠ some (Value.int .u8 x) := by
  obtain ⟨A, n, c, hh, _⟩ := h.ex
  refine ⟨_, hh, fun o x e => ?_⟩
  match o, e with
  | 0, e => simp at e
  | 1, e => simp at e
  | o + 2, e => simp at e
theorem eps_eq (b k : Nat) : eps b 0 k = (List.range k).map fun o => (b, o) := by simp [eps]
theorem Strs.of_map {w : World} {b k : Nat} {xs : List (List UInt8)} {t : TypeId} {fr : Nat × Nat} (h : w.heap[b]? = some (.cells (xs.map fun x : List UInt8 => Value.string ⟨x.toArray⟩).toArray t fr)) (hk : xs.length = k) : Strs w w.heap.size (some ⟨b, 0, none⟩) k k xs :=
  ⟨hk, Nat.le_refl _, fun _ => ⟨b, 0, rfl, lt_of_heap h, fun j hj => by
    rw [cell_of_row w b _ _ t fr h]
    have hj2 : j < xs.length := by omega
    simp [hj2]⟩⟩
theorem map_no_u8 (xs : List (List UInt8)) (o : Nat) (x : Int) : (xs.map fun x : List UInt8 => Value.string ⟨x.toArray⟩).toArray[o]? ≠ some (Value.int .u8 x) := by
  refine Go.Proofs.Ytfignanjelebaaa.no_u8 (fun u hu x => ?_) o x
  obtain ⟨y, _, rfl⟩ := List.mem_map.1 hu
  simp
theorem mks_no_u8 (k : Nat) (o : Nat) (x : Int) : (mks k).toArray[o]? ≠ some (Value.int .u8 x) := by
  refine Go.Proofs.Ytfignanjelebaaa.no_u8 (fun u hu x => ?_) o x
  rw [List.eq_of_mem_replicate hu]
  simp
theorem names_read {k : Nat} {s3 s4 : Rest} {ns : List (List UInt8)} (h : rts k s3 = (ns, s4)) (hk : ns.length = k) : rdF rdS (List.range k) (mks k, s3) = (ns.map (fun x : List UInt8 => Value.string ⟨x.toArray⟩), s4) := by
  rw [rdF_S, List.length_range, h, fillS_all ns k hk]
theorem Rp.Good.blen {r : Rp} (h : r.Good) : r.body.length ≤ 65535 := Nat.le_trans h.len (by decide)
set_option maxRecDepth 100000 in
set_option maxHeartbeats 4000000 in
theorem answered_any (A : Option Addr) (n c B : Nat) (l : List UInt8) (w : World) (h : Bts w B A n c l) (hB : B ≤ w.heap.size) : Calls Try.prog 20 #[.slice A n c] w (AnsP w l) := by
  obtain ⟨a0, ab, az⟩ := box1 w zr
  have A0 : Hid (_ = some (Obj.cells (rc zeroR none 0 0 none 0 0).toArray 44 (0, 0))) := a0
  have AB := Lib.hid ab
  have H := Lib.hid ((h.more hB).below ab)
  have hs0 : w.heap.size < (w.alloc zr).heap.size := by omega
  clear a0 ab az h
  unfold zr at A0 AB H hs0
  go_enter Try.func20, Try.ntmps20
  go_wp2_with fail
  generalize w.alloc (Obj.cells #[.int .i64 0, .int .i64 0, .int .i64 0, .int .i64 0, .int .i64 0, .int .i64 0, .int .i64 0, .int .i64 0, .int .i64 0, .int .i64 0, .slice none 0 0, .slice none 0 0] 44) = W at *
  refine (vopen_any 65 A n c _ l W H.out (Nat.le_of_lt hs0)).mono ?_
  rintro e w1 ⟨f, ok, rest, rfl, hfs, hf, hb, hok⟩
  have HF := Lib.hid hf
  have HB := Lib.hid (AB.out.trans (hb.mono AB.out.size))
  have A1 := Lib.hid ((hb.block w.heap.size hs0).trans A0.out)
  have HOK := Lib.hid hok
  have hf0 : w.heap.size < f := by omega
  have hf1 := hf.lt
  clear hf hb hok A0 AB H
  obtain ⟨r, s1, s2, s3, s4, C1, k, r1, r3, r5, r6, r7, r8, r9, r10, r11, r12, r13⟩ := ans_read rest
  have R1 := Lib.hid r1
  have R5 := Lib.hid r5
  have R6 := Lib.hid r6
  have R7 := Lib.hid r7
  have R8 := Lib.hid r8
  have R9 := Lib.hid r9
  have R10 := Lib.hid r10
  have R12 := Lib.hid r12
  have R13 := Lib.hid r13
  clear r1 r5 r6 r7 r8 r9 r10 r12 r13
  obtain ⟨b0, bb, bz⟩ := box1 w1 zr
  have G2 : Hid (_ = some (Obj.cells (rc zeroR none 0 0 none 0 0).toArray 44 (0, 0))) := b0
  have A2 := Lib.hid ((bb.block w.heap.size (lt_of_heap A1.out)).trans A1.out)
  have F2 := Lib.hid (HF.out.below bb)
  have HB2 := Lib.hid (HB.out.trans (bb.mono HB.out.size))
  clear b0 bb bz A1 HF HB
  unfold zr at G2 A2 F2 HB2
  go_wp2_with fail
  generalize w1.alloc (Obj.cells #[.int .i64 0, .int .i64 0, .int .i64 0, .int .i64 0, .int .i64 0, .int .i64 0, .int .i64 0, .int .i64 0, .int .i64 0, .int .i64 0, .slice none 0 0, .slice none 0 0] 44) = w2 at *
  refine (ofReply_any w1.heap.size w2).mono ?_
  rintro e w3 ⟨A3, n3, c3, rfl, hp, hpf, hb⟩
  have HP := Lib.hid hp
  have HPF : Hid (∀ f', A3 = some ⟨f', 0, none⟩ → f' ≠ w1.heap.size ∧ f' ≠ f) := fun f' e => by
    have h1 := (hpf f' e).1
    have h2 := lt_of_heap G2.out
    have h3 := F2.out.lt
    omega
  have G3 := Lib.hid ((hb.block w1.heap.size (lt_of_heap G2.out)).trans G2.out)
  have A3' := Lib.hid ((hb.block w.heap.size (lt_of_heap A2.out)).trans A2.out)
  have F3 := Lib.hid (F2.out.below hb)
  have HB3 := Lib.hid (HB2.out.trans (hb.mono HB2.out.size))
  have hn3 : n3 ≤ 12 := by rw [← hp.len]; simp [rOs, sOs, cOs]
  clear hp hpf hb G2 A2 F2 HB2
  go_wp2_with fail
  have hget := getI_any rOs A3 n3 c3 w1.heap.size f 44 (rc zeroR none 0 0 none 0 0) (rest, false) w3 (by omega) HP.out HPF.out G3.out (by decide) F3.out hf1
  rw [R1.out] at hget
  refine hget.mono ?_
  clear hget R1
  rintro e w6 ⟨rfl, hg, hf, hbt⟩
  have G6 := Lib.hid hg
  have F6 := Lib.hid hf
  have A6 := Lib.hid ((hbt.block w.heap.size (lt_of_heap A3'.out) (by omega) (by omega)).trans A3'.out)
  have HB6 := Lib.hid (HB3.out.trans (hbt.below (by omega) (by omega) HB3.out.size))
  clear hg hf hbt HP HPF G3 A3' F3 HB3
  go_wp2_with fail
  refine (unbulk_any f w6).mono ?_
  rintro e w7 ⟨rfl, hu, hb⟩
  have U7 := Lib.hid hu
  have G7 := Lib.hid ((hb.block w1.heap.size (lt_of_heap G6.out)).trans G6.out)
  have A7 := Lib.hid ((hb.block w.heap.size (lt_of_heap A6.out)).trans A6.out)
  have F7 := Lib.hid (F6.out.below hb)
  have HB7 := Lib.hid (HB6.out.trans (hb.mono HB6.out.size))
  clear hu hb G6 A6 F6 HB6
  unfold unb
  go_wp2_with fail
  have hbb := below_alloc w7 (Obj.cells #[Value.pointer (some ⟨w1.heap.size, 10, none⟩)] 75)
  have hP8 : (w7.alloc (Obj.cells #[Value.pointer (some ⟨w1.heap.size, 10, none⟩)] 75)).cell? ⟨w7.heap.size, 0, none⟩ = some (.pointer (some ⟨w1.heap.size, 10, none⟩)) := by
    rw [cell_of_row _ _ 0 _ _ _ (heap_alloc_new w7 _)]
    rfl
  have P8 := Lib.hid hP8
  have G8 := Lib.hid ((hbb.block w1.heap.size (lt_of_heap G7.out)).trans G7.out)
  have A8 := Lib.hid ((hbb.block w.heap.size (lt_of_heap A7.out)).trans A7.out)
  have U8 := Lib.hid ((hbb.block w6.heap.size (lt_of_heap U7.out)).trans U7.out)
  have F8 := Lib.hid (F7.out.below hbb)
  have HB8 := Lib.hid (HB7.out.trans (hbb.mono HB7.out.size))
  clear hbb hP8 G7 A7 F7 HB7 U7
  generalize w7.alloc (Obj.cells #[Value.pointer (some ⟨w1.heap.size, 10, none⟩)] 75) = w8 at *
  refine (getB_any 10 w7.heap.size w1.heap.size f w6.heap.size (0, 0) 44 C1 s1 w8 P8.out G8.out U8.out (by omega) F8.out hf1 (by decide)).mono ?_
  rintro e w9 ⟨A9, n9, c9, rfl, hg, hbt9, hf, hbt⟩
  rw [R6.out] at hbt9
  rw [R7.out] at hf
  have G9 := Lib.hid hg
  have D9 := Lib.hid hbt9
  have F9 := Lib.hid hf
  have hn9 := hbt9.len
  have A9' := Lib.hid ((hbt.block w.heap.size (lt_of_heap A8.out) (by omega) (by omega)).trans A8.out)
  have HB9 := Lib.hid (HB8.out.trans (hbt.below (by omega) (by omega) HB8.out.size))
  clear hg hf hbt hbt9 P8 G8 A8 F8 HB8 U8 R6 R7
  go_wp2_with fail
  refine (rn_any f s2 w9 F9.out).mono ?_
  rintro e w10 ⟨rfl, hf, hgr⟩
  rw [R8.out]
  rw [R9.out] at hf
  rw [R5.out] at G9
  have F10 := Lib.hid hf
  have G10 := Lib.hid ((hgr.block w1.heap.size (lt_of_heap G9.out) (fun e => by injection e; omega)).trans G9.out)
  have A10 := Lib.hid ((hgr.block w.heap.size (lt_of_heap A9'.out) (fun e => by injection e; omega)).trans A9'.out)
  have HB10 := Lib.hid (HB9.out.trans ((But2.of_grown (g := f) hgr).below (by omega) (by omega) HB9.out.size))
  obtain ⟨CF, hCF, hCu⟩ := F9.out.no_u8
  have D10 := Lib.hid ((D9.out.but2 (Nat.le_refl _) (But2.of_grown (g := f) hgr) hCF hCu hCF hCu).more hgr.size)
  clear hf hgr F9 G9 A9' HB9 hCF hCu D9 R8 R9 R5
  unfold iv
  rcases HOK.out with ⟨rfl, hl, hy⟩ | ⟨rfl, hl⟩
  case inr =>
    have HL := Lib.hid hl
    clear hl HOK
    go_wp2_with (first | (refine wpList_store_row rfl 44 _ _ rfl w.heap.size (rc zeroR none 0 0 none 0 0).toArray (rc zeroR none 0 0 none 0 0).toArray _ rfl rfl A10.out s44 rfl (all_oneCell_toArray (rc_one zeroR _ _ _ _ _ _)) ?_) | fail)
    refine bodyPost_ret (ret_row2 rfl rfl (setRow_in _ _ _ (rc zeroR none 0 0 none 0 0).toArray _ A10.out) Try.underlying44 rfl s44) rfl ?_
    exact ⟨below_setRow HB10.out (Nat.le_refl _) _, .inr ⟨fun r hr => HL.out _ hr.blen, rfl⟩⟩
  have HL := Lib.hid hl
  clear hl hy HOK
  by_cases hk : k ≤ 512
  case neg =>
    have hk2 : (k : Int) > 512 := by omega
    have HN : Hid (∀ r : Rp, r.Good → rest ≠ r.body) := fun r hr e => hk (R13.out r hr e).2.1
    clear hk
    go_wp2_with (first | (refine wpList_store_row rfl 44 _ _ rfl w.heap.size (rc zeroR none 0 0 none 0 0).toArray (rc zeroR none 0 0 none 0 0).toArray _ rfl rfl A10.out s44 rfl (all_oneCell_toArray (rc_one zeroR _ _ _ _ _ _)) ?_) | fail)
    refine bodyPost_ret (ret_row2 rfl rfl (setRow_in _ _ _ (rc zeroR none 0 0 none 0 0).toArray _ A10.out) Try.underlying44 rfl s44) rfl ?_
    exact ⟨below_setRow HB10.out (Nat.le_refl _) _, .inr ⟨fun r hr e => HN.out r hr (fram_inj (HL.out.symm.trans e)).2, rfl⟩⟩
  have hk2 : ¬ (k : Int) > 512 := by omega
  have hmk := make42 k hk w10
  have hlt10 := lt_of_heap G10.out
  have hltf := F10.out.lt
  have hw10 : w.heap.size < w10.heap.size := lt_of_heap A10.out
  have hG10 := ((below_alloc w10 (Obj.cells (mks k).toArray 9)).block w1.heap.size hlt10).trans G10.out
  have hc11 : (w10.alloc (Obj.cells (mks k).toArray 9)).cell? ⟨w1.heap.size, 11, none⟩ = some (.slice none 0 0) := cell_in hG10 11
  have hf11 := free_in hG10 11
  have hsz11 : (w10.setCell ⟨w1.heap.size, 11, none⟩ (Value.slice (some ⟨w10.heap.size, 0, none⟩) k k)).heap.size = w10.heap.size := by simp [World.setCell]
  have G11 : Hid ((w10.setCell ⟨w1.heap.size, 11, none⟩ (Value.slice (some ⟨w10.heap.size, 0, none⟩) k k)).heap[w1.heap.size]? = some (.cells (rc r A9 n9 c9 (some ⟨w10.heap.size, 0, none⟩) k k).toArray 44 (0, 0))) := (heap_set G10.out 11 _).trans (by simp [rc])
  have A11 := Lib.hid ((Below.heap_setCell w10 ⟨w1.heap.size, 11, none⟩ (Value.slice (some ⟨w10.heap.size, 0, none⟩) k k) w.heap.size (by show w.heap.size ≠ w1.heap.size; omega)).trans A10.out)
  have F11 := Lib.hid (F10.out.set (g := w1.heap.size) (o := 11) (u := (Value.slice (some ⟨w10.heap.size, 0, none⟩) k k)) hf1)
  have HB11 := Lib.hid (HB10.out.setCell (p := ⟨w1.heap.size, 11, none⟩) (by show w.heap.size ≤ w1.heap.size; omega) (Value.slice (some ⟨w10.heap.size, 0, none⟩) k k))
  have hb11 := But2.of_set (g := w1.heap.size) (fm := w1.heap.size) w10 11 (Value.slice (some ⟨w10.heap.size, 0, none⟩) k k)
  have D11 := Lib.hid ((D10.out.but2 (Nat.le_refl _) hb11 G10.out (no_u8 (rc_no_u8 _ _ _ _ _ _ _)) G10.out (no_u8 (rc_no_u8 _ _ _ _ _ _ _))).more hb11.size)
  obtain ⟨x0, xb, xz⟩ := box1 (w10.setCell ⟨w1.heap.size, 11, none⟩ (Value.slice (some ⟨w10.heap.size, 0, none⟩) k k)) (Obj.cells (mks k).toArray 9)
  rw [hsz11] at x0
  have N12 := Lib.hid x0
  have G12 := Lib.hid ((xb.block w1.heap.size (lt_of_heap G11.out)).trans G11.out)
  have A12 := Lib.hid ((xb.block w.heap.size (lt_of_heap A11.out)).trans A11.out)
  have F12 := Lib.hid (F11.out.below xb)
  have HB12 := Lib.hid (HB11.out.trans (xb.mono HB11.out.size))
  have D12 := Lib.hid ((D11.out.below xb).more xb.size)
  have hc12 : ((w10.setCell ⟨w1.heap.size, 11, none⟩ (Value.slice (some ⟨w10.heap.size, 0, none⟩) k k)).alloc (Obj.cells (mks k).toArray 9)).cell? ⟨w1.heap.size, 11, none⟩ = some (Value.slice (some ⟨w10.heap.size, 0, none⟩) k k) := cell_in G12.out 11
  have hc13 : (w10.setCell ⟨w1.heap.size, 11, none⟩ (Value.slice (some ⟨w10.heap.size, 0, none⟩) k k)).cell? ⟨w1.heap.size, 11, none⟩ = some (Value.slice (some ⟨w10.heap.size, 0, none⟩) k k) := cell_in G11.out 11
  clear x0 xb xz G11 A11 F11 HB11 D11 hb11 G10 A10 F10 HB10 D10 hG10
  go_wp2_with fail
  clear hmk hc11 hf11 hc12 hc13
  generalize ((w10.setCell ⟨w1.heap.size, 11, none⟩ (Value.slice (some ⟨w10.heap.size, 0, none⟩) k k)).alloc (Obj.cells (mks k).toArray 9)) = w12 at *
  refine (each_any (some ⟨w10.heap.size, 0, none⟩) w10.heap.size 0 k k w12 (fun _ => rfl) (by omega)).mono ?_
  rintro e w13 ⟨A13, n13, c13, rfl, hp, hpf, hb⟩
  rw [eps_eq] at hp
  have HP := Lib.hid hp
  have HPF : Hid (∀ f', A13 = some ⟨f', 0, none⟩ → f' ≠ w10.heap.size ∧ f' ≠ f) := fun f' e => by
    have h1 := (hpf f' e).1
    have h2 := lt_of_heap N12.out
    have h3 := F12.out.lt
    omega
  have hn13 : n13 ≤ 512 := by rw [← hp.len]; simpa using hk
  have G13 := Lib.hid ((hb.block w1.heap.size (lt_of_heap G12.out)).trans G12.out)
  have A13' := Lib.hid ((hb.block w.heap.size (lt_of_heap A12.out)).trans A12.out)
  have N13 := Lib.hid ((hb.block w10.heap.size (lt_of_heap N12.out)).trans N12.out)
  have F13 := Lib.hid (F12.out.below hb)
  have HB13 := Lib.hid (HB12.out.trans (hb.mono HB12.out.size))
  have D13 := Lib.hid ((D12.out.below hb).more hb.size)
  clear hp hpf hb G12 A12 N12 F12 HB12 D12
  go_wp2_with fail
  have hget := getS_any (List.range k) A13 n13 c13 w10.heap.size f 9 (mks k) s3 w13 (by omega) HP.out HPF.out N13.out (fun o ho => by
    rw [List.mem_range] at ho
    simpa [mks] using ho) F13.out (by omega)
  rw [names_read R10.out r11] at hget
  refine hget.mono ?_
  clear hget R10
  rintro e w14 ⟨rfl, hg, hf, hbt⟩
  obtain ⟨CF, hCF, hCu⟩ := F13.out.no_u8
  have N14 := Lib.hid hg
  have F14 := Lib.hid hf
  have D14 := Lib.hid ((D13.out.but2 (Nat.le_refl _) hbt N13.out (mks_no_u8 k) hCF hCu).more hbt.size)
  have G14 := Lib.hid ((hbt.block w1.heap.size (lt_of_heap G13.out) (by omega) (by omega)).trans G13.out)
  have A14 := Lib.hid ((hbt.block w.heap.size (lt_of_heap A13'.out) (by omega) (by omega)).trans A13'.out)
  have HB14 := Lib.hid (HB13.out.trans (hbt.below (by omega) (by omega) HB13.out.size))
  have T14 := Lib.hid (Strs.of_map hg r11)
  clear hg hf hbt HP HPF G13 A13' F13 HB13 D13 N13 hCF hCu
  have hez := end_zero (s := s4)
  obtain ⟨x, hx⟩ : ∃ x, endOf s4.1 s4.2 = x := ⟨_, rfl⟩
  rw [hx] at hez
  have HX := Lib.hid hx
  clear hx
  by_cases h0 : x = 0
  case neg =>
    have HN : Hid (∀ r : Rp, r.Good → rest ≠ r.body) := fun r hr e => h0 (hez.2 (R13.out r hr e).2.2)
    clear hez
    go_wp2_with fail
    refine (fend_any f _ _ w14 F14.out).mono ?_
    rintro e w15 ⟨rfl, rfl⟩
    rw [HX.out]
    go_wp2_with (first | (refine wpList_store_row rfl 44 _ _ rfl w.heap.size (rc zeroR none 0 0 none 0 0).toArray (rc zeroR none 0 0 none 0 0).toArray _ rfl rfl A14.out s44 rfl (all_oneCell_toArray (rc_one zeroR _ _ _ _ _ _)) ?_) | fail)
    refine bodyPost_ret (ret_row2 rfl rfl (setRow_in _ _ _ (rc zeroR none 0 0 none 0 0).toArray _ A14.out) Try.underlying44 rfl s44) rfl ?_
    exact ⟨below_setRow HB14.out (Nat.le_refl _) _, .inr ⟨fun r hr e => HN.out r hr (fram_inj (HL.out.symm.trans e)).2, rfl⟩⟩
  subst h0
  have HE := Lib.hid (R12.out (hez.1 rfl))
  clear hez R12
  go_wp2_with fail
  refine (fend_any f _ _ w14 F14.out).mono ?_
  rintro e w15 ⟨rfl, rfl⟩
  rw [HX.out]
  go_wp2_with (first | (refine wpList_load_row rfl 44 _ rfl w1.heap.size rfl _ _ _ G14.out _ Try.underlying44 rfl s44 ?_) | fail)
  refine (goodR_any r A9 (some ⟨w10.heap.size, 0, none⟩) n9 c9 k k _ w14 hn9 T14.out (Nat.le_refl _)).mono ?_
  rintro e w15 ⟨rfl, hb⟩
  have G15 := Lib.hid ((hb.block w1.heap.size (lt_of_heap G14.out)).trans G14.out)
  have A15 := Lib.hid ((hb.block w.heap.size (lt_of_heap A14.out)).trans A14.out)
  have HB15 := Lib.hid (HB14.out.trans (hb.mono HB14.out.size))
  have D15 := Lib.hid ((D14.out.below hb).more hb.size)
  have T15 := Lib.hid ((T14.out.below hb).more hb.size)
  clear hb G14 A14 F14 HB14 HX D14 T14 N14
  by_cases hg : r.Good
  case neg =>
    have HN : Hid (∀ r' : Rp, r'.Good → rest ≠ r'.body) := fun r' hr e => hg (by rw [(R13.out r' hr e).1]; exact hr)
    rw [decide_eq_false hg]
    clear hg R13 HE
    go_wp2_with (first | (refine wpList_store_row rfl 44 _ _ rfl w.heap.size (rc zeroR none 0 0 none 0 0).toArray (rc zeroR none 0 0 none 0 0).toArray _ rfl rfl A15.out s44 rfl (all_oneCell_toArray (rc_one zeroR _ _ _ _ _ _)) ?_) | fail)
    refine bodyPost_ret (ret_row2 rfl rfl (setRow_in _ _ _ (rc zeroR none 0 0 none 0 0).toArray _ A15.out) Try.underlying44 rfl s44) rfl ?_
    exact ⟨below_setRow HB15.out (Nat.le_refl _) _, .inr ⟨fun r hr e => HN.out r hr (fram_inj (HL.out.symm.trans e)).2, rfl⟩⟩
  have HG := Lib.hid hg
  rw [decide_eq_true hg]
  clear hg R13
  go_wp2_with (first | (refine wpList_store_row rfl 44 _ _ rfl w.heap.size (rc zeroR none 0 0 none 0 0).toArray (rc r A9 n9 c9 (some ⟨w10.heap.size, 0, none⟩) k k).toArray _ rfl rfl A15.out s44 rfl (all_oneCell_toArray (rc_one r _ _ _ _ _ _)) ?_) | (refine wpList_load_row rfl 44 _ rfl w1.heap.size rfl _ _ _ G15.out _ Try.underlying44 rfl s44 ?_) | fail)
  refine bodyPost_ret (ret_row2 rfl rfl (setRow_in _ _ _ (rc r A9 n9 c9 (some ⟨w10.heap.size, 0, none⟩) k k).toArray _ A15.out) Try.underlying44 rfl s44) rfl ?_
  exact ⟨below_setRow HB15.out (Nat.le_refl _) _, .inl ⟨r, HG.out, by rw [HL.out, HE.out]; rfl, A9, n9, c9, _, k, k, (D15.out.off_row A15.out (no_u8 (rc_no_u8 _ _ _ _ _ _ _)) _).more (by simp [World.setRow]), (T15.out.off_row A15.out (no_str (rc_no_str _ _ _ _ _ _ _)) _).more (by simp [World.setRow]), rfl⟩⟩
end Go.Proofs.Ytfignanjelebaaa
