/- package verb: Decode: the request that a frame is. -/
import Derived.Test.YtfignanjelebaaaYLong
import Derived.Laws.EntriesVeiled
namespace Go.Proofs.Ytfignanjelebaaa
open Go.RowKit
set_option linter.unusedVariables false
def unb (g : Nat) : Value := .func (.func 73) #[] #[.pointer (some ⟨g, 0, none⟩)]
def UnbkQ (w : World) (f : Nat) (e : Ending) (w' : World) : Prop := e = .returned (unb w.heap.size) ∧ w'.heap[w.heap.size]? = some (.cells #[.pointer (some ⟨f, 0, none⟩)] 84 (0, 0)) ∧ Below w.heap.size w w'
theorem unbulk_any (f : Nat) (w : World) : Calls Try.prog 51 #[.pointer (some ⟨f, 0, none⟩)] w (UnbkQ w f) := by
  obtain ⟨a0, ab, az⟩ := box1 w (Obj.cells #[.pointer (some ⟨f, 0, none⟩)] 84)
  have A0 := Lib.hid a0
  have AB := Lib.hid ab
  clear a0 ab az
  go_enter Try.func51, Try.ntmps51
  go_wp2_with fail
  go_ret
  exact ⟨rfl, A0.out, AB.out⟩
/-- A slice of bytes does not lie in a block that holds none. -/
theorem Bts.off_row {w : World} {B g n c : Nat} {A : Option Addr} {l : List UInt8} {C : Array Value} {t : TypeId} {fr : Nat × Nat} (h : Bts w B A n c l) (hg : w.heap[g]? = some (.cells C t fr)) (hC : ∀ (o : Nat) (x : Int), C[o]? ≠ some (Value.int .u8 x)) (C' : Array Value) : Bts (w.setRow g C') B A n c l :=
  ⟨h.len, h.cap, h.lim, h.nil, fun hn => by
    obtain ⟨b, off, e, hb, hc⟩ := h.at_ hn
    refine ⟨b, off, e, hb, fun j hj => ?_⟩
    rw [← hc j hj]
    refine World.cell?_of_block (setRow_other w g b C' fun e2 => ?_)
    have h2 := hc 0 hn
    subst e2
    rw [cell_of_row w b _ _ t fr hg] at h2
    exact hC _ _ h2⟩
theorem Strs.off_row {w : World} {B g n c : Nat} {A : Option Addr} {l : List (List UInt8)} {C : Array Value} {t : TypeId} {fr : Nat × Nat} (h : Strs w B A n c l) (hg : w.heap[g]? = some (.cells C t fr)) (hC : ∀ (o : Nat) (x : ByteArray), C[o]? ≠ some (Value.string x)) (C' : Array Value) : Strs (w.setRow g C') B A n c l :=
  ⟨h.len, h.cap, fun hn => by
    obtain ⟨b, off, e, hb, hc⟩ := h.at_ hn
    refine ⟨b, off, e, hb, fun j hj => ?_⟩
    rw [← hc j hj]
    refine World.cell?_of_block (setRow_other w g b C' fun e2 => ?_)
    have h2 := hc 0 hn
    subst e2
    rw [cell_of_row w b _ _ t fr hg] at h2
    exact hC _ _ h2⟩
theorem no_u8 {C : List Value} (h : ∀ u ∈ C, ∀ x, u ≠ .int .u8 x) (o : Nat) (x : Int) : C.toArray[o]? ≠ some (.int .u8 x) := fun e => by
  have e2 : C[o]? = some (.int .u8 x) := by simpa using e
  exact h _ (List.mem_of_getElem? e2) x rfl
theorem no_str {C : List Value} (h : ∀ u ∈ C, ∀ x, u ≠ .string x) (o : Nat) (x : ByteArray) : C.toArray[o]? ≠ some (.string x) := fun e => by
  have e2 : C[o]? = some (.string x) := by simpa using e
  exact h _ (List.mem_of_getElem? e2) x rfl
theorem vc_no_u8 (v : Vb) (A : Option Addr) (n c : Nat) : ∀ u ∈ vc v A n c, ∀ x, u ≠ .int .u8 x := by
  intro u hu x
  simp only [vc, List.mem_cons, List.not_mem_nil, or_false] at hu
  rcases hu with rfl | rfl | rfl | rfl | rfl | rfl | rfl | rfl | rfl | rfl | rfl | rfl | rfl <;> simp [iv]
theorem rc_no_u8 (r : Rp) (A : Option Addr) (n c : Nat) (A' : Option Addr) (n' c' : Nat) : ∀ u ∈ rc r A n c A' n' c', ∀ x, u ≠ .int .u8 x := by
  intro u hu x
  simp only [rc, List.mem_cons, List.not_mem_nil, or_false] at hu
  rcases hu with rfl | rfl | rfl | rfl | rfl | rfl | rfl | rfl | rfl | rfl | rfl | rfl <;> simp [iv]
theorem rc_no_str (r : Rp) (A : Option Addr) (n c : Nat) (A' : Option Addr) (n' c' : Nat) : ∀ u ∈ rc r A n c A' n' c', ∀ x, u ≠ .string x := by
  intro u hu x
  simp only [rc, List.mem_cons, List.not_mem_nil, or_false] at hu
  rcases hu with rfl | rfl | rfl | rfl | rfl | rfl | rfl | rfl | rfl | rfl | rfl | rfl <;> simp [iv]
/-- What Decode reads: the cells of a request, one step after the other. -/
theorem dec_read (l : List UInt8) : ∃ (v : Vb) (s1 s2 s3 : Rest) (C1 C2 : List Value), rdF rdI vOs (vc zeroV none 0 0, (l, false)) = (C1, s1) ∧ rdF rdS [5, 6] (C1, s1) = (C2, s2) ∧ C1.length = 13 ∧ C2.length = 13 ∧ (∀ A n c, C2.set 12 (.slice A n c) = vc v A n c) ∧ (rt s2).1 = v.d ∧ (rt s2).2 = s3 ∧ (s3 = ([], false) → l = v.body) ∧ ∀ v' : Vb, v'.Good → l = v'.body → v = v' ∧ s3 = ([], false) := by
  obtain ⟨x0, x1, x2, x3, x4, x5, x6, x7, x8, x9, e⟩ := len10 (rns_len 10 (l, false))
  have e10 : rdF rdI vOs (vc zeroV none 0 0, (l, false)) = (fillI (vc zeroV none 0 0) vOs (rns 10 (l, false)).1, (rns 10 (l, false)).2) := rdF_I vOs _ _
  have eV : (rdV l).1 = (rns 10 (l, false)).1 ∧ (rdV l).2.1 = (rts 3 (rns 10 (l, false)).2).1 ∧ (rdV l).2.2 = (rts 3 (rns 10 (l, false)).2).2 := ⟨rfl, rfl, rfl⟩
  have hback := rdV_back l
  have hw := rdV_write
  rw [eV.1, eV.2.1, eV.2.2] at hback
  have hw2 : ∀ v' : Vb, v'.Good → l = v'.body → (rns 10 (l, false)).1 = v'.ns ∧ (rts 3 (rns 10 (l, false)).2).1 = [v'.p, v'.o, v'.d] ∧ (rts 3 (rns 10 (l, false)).2).2 = ([], false) := fun v' hv e => by
    have h := hw v' hv
    rw [← e] at h
    rw [← eV.1, ← eV.2.1, ← eV.2.2, h]
    exact ⟨rfl, rfl, rfl⟩
  clear eV hw
  rw [e] at e10 hback hw2
  generalize (rns 10 (l, false)).2 = s1 at *
  have e2 : rts 3 s1 = ([(rt s1).1, (rt (rt s1).2).1, (rt (rt (rt s1).2).2).1], (rt (rt (rt s1).2).2).2) := rfl
  rw [e2] at hback hw2
  have eS : rdF rdS [5, 6] (fillI (vc zeroV none 0 0) vOs [x0, x1, x2, x3, x4, x5, x6, x7, x8, x9], s1) = (fillS (fillI (vc zeroV none 0 0) vOs [x0, x1, x2, x3, x4, x5, x6, x7, x8, x9]) [5, 6] [(rt s1).1, (rt (rt s1).2).1], (rt (rt s1).2).2) := rdF_S [5, 6] _ _
  generalize (rt s1).1 = t0 at *
  generalize (rt (rt s1).2).1 = t1 at *
  generalize (rt (rt s1).2).2 = s2 at *
  refine ⟨⟨x0, x1, x2, x3, x4, x5, x6, x7, x8, x9, t0, t1, (rt s2).1⟩, s1, s2, (rt s2).2, _, _, e10, eS, rfl, rfl, fun A n c => rfl, rfl, rfl, ?_, ?_⟩
  · intro h
    exact hback h
  · intro v' hv e'
    obtain ⟨h1, h2, h3⟩ := hw2 v' hv e'
    refine ⟨Vb.ext_of h1 ?_ ?_ ?_, h3⟩
    · simp only [List.cons.injEq] at h2
      exact h2.1
    · simp only [List.cons.injEq] at h2
      exact h2.2.1
    · simp only [List.cons.injEq] at h2
      exact h2.2.2.1
def zv : Obj := (Obj.cells #[.int .i64 0, .int .i64 0, .int .i64 0, .int .i64 0, .int .i64 0, .string ⟨#[]⟩, .string ⟨#[]⟩, .int .i64 0, .int .i64 0, .int .i64 0, .int .i64 0, .int .i64 0, .slice none 0 0] 26)
theorem Vb.Good.blen {v : Vb} (h : v.Good) : v.body.length ≤ 65535 := Nat.le_trans h.len (by decide)
set_option maxRecDepth 100000 in
set_option maxHeartbeats 4000000 in
theorem decode_any (A : Option Addr) (n c B : Nat) (l : List UInt8) (w : World) (h : Bts w B A n c l) (hB : B ≤ w.heap.size) : Calls Try.prog 16 #[.slice A n c] w (DecP w l) := by
  obtain ⟨a0, ab, az⟩ := box1 w zv
  have A0 : Hid (_ = some (Obj.cells (vc zeroV none 0 0).toArray 26 (0, 0))) := a0
  have AB := Lib.hid ab
  have H := Lib.hid ((h.more hB).below ab)
  have hs0 : w.heap.size < (w.alloc zv).heap.size := by omega
  clear a0 ab az h
  unfold zv at A0 AB H hs0
  go_enter Try.func16, Try.ntmps16
  go_wp2_with fail
  generalize w.alloc (Obj.cells #[.int .i64 0, .int .i64 0, .int .i64 0, .int .i64 0, .int .i64 0, .string ⟨#[]⟩, .string ⟨#[]⟩, .int .i64 0, .int .i64 0, .int .i64 0, .int .i64 0, .int .i64 0, .slice none 0 0] 26) = W at *
  refine (vopen_any 81 A n c _ l W H.out (Nat.le_of_lt hs0)).mono ?_
  rintro e w1 ⟨f, ok, rest, rfl, hfs, hf, hb, hok⟩
  have HF := Lib.hid hf
  have HB := Lib.hid (AB.out.trans (hb.mono AB.out.size))
  have A1 := Lib.hid ((hb.block w.heap.size hs0).trans A0.out)
  have HOK := Lib.hid hok
  have hf0 : w.heap.size < f := by omega
  have hf1 := hf.lt
  clear hf hb hok A0 AB H
  obtain ⟨v, s1, s2, s3, C1, C2, r1, r2, r3, r4, r5, r6, r7, r8, r9⟩ := dec_read rest
  have R1 := Lib.hid r1
  have R2 := Lib.hid r2
  have R5 := Lib.hid r5
  have R6 := Lib.hid r6
  have R7 := Lib.hid r7
  have R8 := Lib.hid r8
  have R9 := Lib.hid r9
  clear r1 r2 r5 r6 r7 r8 r9
  obtain ⟨b0, bb, bz⟩ := box1 w1 zv
  have G2 : Hid (_ = some (Obj.cells (vc zeroV none 0 0).toArray 26 (0, 0))) := b0
  have A2 := Lib.hid ((bb.block w.heap.size (lt_of_heap A1.out)).trans A1.out)
  have F2 := Lib.hid (HF.out.below bb)
  have HB2 := Lib.hid (HB.out.trans (bb.mono HB.out.size))
  clear b0 bb bz A1 HF HB
  unfold zv at G2 A2 F2 HB2
  go_wp2_with fail
  generalize w1.alloc (Obj.cells #[.int .i64 0, .int .i64 0, .int .i64 0, .int .i64 0, .int .i64 0, .string ⟨#[]⟩, .string ⟨#[]⟩, .int .i64 0, .int .i64 0, .int .i64 0, .int .i64 0, .int .i64 0, .slice none 0 0] 26) = w2 at *
  refine (ofVerb_any w1.heap.size w2).mono ?_
  rintro e w3 ⟨A3, n3, c3, rfl, hp, hpf, hb⟩
  have HP := Lib.hid hp
  have HPF : Hid (∀ f', A3 = some ⟨f', 0, none⟩ → f' ≠ w1.heap.size ∧ f' ≠ f) := fun f' e => by
    have h1 := (hpf f' e).1
    have h2 := lt_of_heap G2.out
    have h3 := F2.out.lt
    omega
  have G3 := Lib.hid ((hb.block w1.heap.size (lt_of_heap G2.out)).trans G2.out)
  have A3' := Lib.hid ((hb.block w.heap.size (lt_of_heap A2.out)).trans A2.out)
  have F3 := Lib.hid (F2.out.below hb)
  have HB3 := Lib.hid (HB2.out.trans (hb.mono HB2.out.size))
  have hn3 : n3 ≤ 12 := by rw [← hp.len]; simp [vOs]
  clear hp hpf hb G2 A2 F2 HB2
  go_wp2_with fail
  have hget := getI_any vOs A3 n3 c3 w1.heap.size f 26 (vc zeroV none 0 0) (rest, false) w3 (by omega) HP.out HPF.out G3.out (by decide) F3.out hf1
  rw [R1.out] at hget
  refine hget.mono ?_
  clear hget R1
  rintro e w4 ⟨rfl, hg, hf, hbt⟩
  have G4 := Lib.hid hg
  have F4 := Lib.hid hf
  have A4 := Lib.hid ((hbt.block w.heap.size (lt_of_heap A3'.out) (by omega) (by omega)).trans A3'.out)
  have HB4 := Lib.hid (HB3.out.trans (hbt.below (by omega) (by omega) HB3.out.size))
  clear hg hf hbt HP HPF G3 A3' F3 HB3
  go_wp2_with fail
  have hbb := below_alloc w4 (Obj.cells #[Value.pointer (some ⟨w1.heap.size, 5, none⟩), Value.pointer (some ⟨w1.heap.size, 6, none⟩)] 72)
  have P5 := Lib.hid (ptrs_new (ps := [5, 6].map fun o => (w1.heap.size, o)) (heap_alloc_new w4 (Obj.cells #[Value.pointer (some ⟨w1.heap.size, 5, none⟩), Value.pointer (some ⟨w1.heap.size, 6, none⟩)] 72)) rfl (by decide))
  have G5 := Lib.hid ((hbb.block w1.heap.size (lt_of_heap G4.out)).trans G4.out)
  have A5 := Lib.hid ((hbb.block w.heap.size (lt_of_heap A4.out)).trans A4.out)
  have F5 := Lib.hid (F4.out.below hbb)
  have HB5 := Lib.hid (HB4.out.trans (hbb.mono HB4.out.size))
  have hlt5 := lt_of_heap G4.out
  clear hbb G4 A4 F4 HB4
  generalize w4.alloc (Obj.cells #[Value.pointer (some ⟨w1.heap.size, 5, none⟩), Value.pointer (some ⟨w1.heap.size, 6, none⟩)] 72) = w5 at *
  have hget := getS_any [5, 6] (some ⟨w4.heap.size, 0, none⟩) 2 2 w1.heap.size f 26 C1 s1 w5 (by omega) P5.out (fun f' e => by cases e; omega) G5.out (by rw [r3]; decide) F5.out hf1
  rw [R2.out] at hget
  refine hget.mono ?_
  clear hget R2
  rintro e w6 ⟨rfl, hg, hf, hbt⟩
  have G6 := Lib.hid hg
  have F6 := Lib.hid hf
  have A6 := Lib.hid ((hbt.block w.heap.size (lt_of_heap A5.out) (by omega) (by omega)).trans A5.out)
  have HB6 := Lib.hid (HB5.out.trans (hbt.below (by omega) (by omega) HB5.out.size))
  clear hg hf hbt P5 G5 A5 F5 HB5
  go_wp2_with fail
  refine (unbulk_any f w6).mono ?_
  rintro e w7 ⟨rfl, hu, hb⟩
  have U7 := Lib.hid hu
  have G7 := Lib.hid ((hb.block w1.heap.size (lt_of_heap G6.out)).trans G6.out)
  have A7 := Lib.hid ((hb.block w.heap.size (lt_of_heap A6.out)).trans A6.out)
  have F7 := Lib.hid (F6.out.below hb)
  have HB7 := Lib.hid (HB6.out.trans (hb.mono HB6.out.size))
  clear hu hb G6 A6 F6 HB6
  unfold unb
  go_wp2_with fail
  have hbb := below_alloc w7 (Obj.cells #[Value.pointer (some ⟨w1.heap.size, 12, none⟩)] 75)
  have hP8 : (w7.alloc (Obj.cells #[Value.pointer (some ⟨w1.heap.size, 12, none⟩)] 75)).cell? ⟨w7.heap.size, 0, none⟩ = some (.pointer (some ⟨w1.heap.size, 12, none⟩)) := by
    rw [cell_of_row _ _ 0 _ _ _ (heap_alloc_new w7 _)]
    rfl
  have P8 := Lib.hid hP8
  have G8 := Lib.hid ((hbb.block w1.heap.size (lt_of_heap G7.out)).trans G7.out)
  have A8 := Lib.hid ((hbb.block w.heap.size (lt_of_heap A7.out)).trans A7.out)
  have U8 := Lib.hid ((hbb.block w6.heap.size (lt_of_heap U7.out)).trans U7.out)
  have F8 := Lib.hid (F7.out.below hbb)
  have HB8 := Lib.hid (HB7.out.trans (hbb.mono HB7.out.size))
  clear hbb hP8 G7 A7 F7 HB7 U7
  generalize w7.alloc (Obj.cells #[Value.pointer (some ⟨w1.heap.size, 12, none⟩)] 75) = w8 at *
  refine (getB_any 12 w7.heap.size w1.heap.size f w6.heap.size (0, 0) 26 C2 s2 w8 P8.out G8.out U8.out (by omega) F8.out hf1 (by decide)).mono ?_
  rintro e w9 ⟨A9, n9, c9, rfl, hg, hbt9, hf, hbt⟩
  rw [R5.out] at hg
  rw [R6.out] at hbt9
  rw [R7.out] at hf
  have G9 := Lib.hid hg
  have D9 := Lib.hid hbt9
  have F9 := Lib.hid hf
  have hn9 := hbt9.len
  have A9' := Lib.hid ((hbt.block w.heap.size (lt_of_heap A8.out) (by omega) (by omega)).trans A8.out)
  have HB9 := Lib.hid (HB8.out.trans (hbt.below (by omega) (by omega) HB8.out.size))
  clear hg hf hbt hbt9 P8 G8 A8 F8 HB8 U8 R5 R6 R7
  rcases HOK.out with ⟨rfl, hl, hy⟩ | ⟨rfl, hl⟩
  case inr =>
    have HL := Lib.hid hl
    clear hl HOK
    go_wp2_with (first | (refine wpList_store_row rfl 26 _ _ rfl w.heap.size (vc zeroV none 0 0).toArray (vc zeroV none 0 0).toArray _ rfl rfl A9'.out s26 rfl (all_oneCell_toArray (vc_one zeroV _ _ _)) ?_) | fail)
    refine bodyPost_ret (ret_row2 rfl rfl (setRow_in _ _ _ (vc zeroV none 0 0).toArray _ A9'.out) Try.underlying26 rfl s26) rfl ?_
    exact ⟨below_setRow HB9.out (Nat.le_refl _) _, .inr ⟨fun v hv => HL.out _ hv.blen, rfl⟩⟩
  have HL := Lib.hid hl
  clear hl hy HOK
  have hez := end_zero (s := s3)
  obtain ⟨x, hx⟩ : ∃ x, endOf s3.1 s3.2 = x := ⟨_, rfl⟩
  rw [hx] at hez
  have HX := Lib.hid hx
  clear hx
  by_cases h0 : x = 0
  case neg =>
    have HN : Hid (∀ v : Vb, v.Good → rest ≠ v.body) := fun v hv e => h0 (hez.2 (R9.out v hv e).2)
    clear hez
    go_wp2_with fail
    refine (fend_any f _ _ w9 F9.out).mono ?_
    rintro e w10 ⟨rfl, rfl⟩
    rw [HX.out]
    go_wp2_with (first | (refine wpList_store_row rfl 26 _ _ rfl w.heap.size (vc zeroV none 0 0).toArray (vc zeroV none 0 0).toArray _ rfl rfl A9'.out s26 rfl (all_oneCell_toArray (vc_one zeroV _ _ _)) ?_) | fail)
    refine bodyPost_ret (ret_row2 rfl rfl (setRow_in _ _ _ (vc zeroV none 0 0).toArray _ A9'.out) Try.underlying26 rfl s26) rfl ?_
    exact ⟨below_setRow HB9.out (Nat.le_refl _) _, .inr ⟨fun v hv e => HN.out v hv (fram_inj (HL.out.symm.trans e)).2, rfl⟩⟩
  subst h0
  have HE := Lib.hid (R8.out (hez.1 rfl))
  clear hez R8
  go_wp2_with fail
  refine (fend_any f _ _ w9 F9.out).mono ?_
  rintro e w10 ⟨rfl, rfl⟩
  rw [HX.out]
  go_wp2_with (first | (refine wpList_load_row rfl 26 _ rfl w1.heap.size rfl _ _ _ G9.out _ Try.underlying26 rfl s26 ?_) | fail)
  refine (good_any v A9 n9 c9 w9 hn9).mono ?_
  rintro e w10 ⟨rfl, hb⟩
  have G10 := Lib.hid ((hb.block w1.heap.size (lt_of_heap G9.out)).trans G9.out)
  have A10 := Lib.hid ((hb.block w.heap.size (lt_of_heap A9'.out)).trans A9'.out)
  have HB10 := Lib.hid (HB9.out.trans (hb.mono HB9.out.size))
  have D10 := Lib.hid ((D9.out.below hb).more hb.size)
  clear hb G9 A9' F9 HB9 HX D9
  by_cases hg : v.Good
  case neg =>
    have HN : Hid (∀ v' : Vb, v'.Good → rest ≠ v'.body) := fun v' hv e => hg (by rw [(R9.out v' hv e).1]; exact hv)
    rw [decide_eq_false hg]
    clear hg R9 HE
    go_wp2_with (first | (refine wpList_store_row rfl 26 _ _ rfl w.heap.size (vc zeroV none 0 0).toArray (vc zeroV none 0 0).toArray _ rfl rfl A10.out s26 rfl (all_oneCell_toArray (vc_one zeroV _ _ _)) ?_) | fail)
    refine bodyPost_ret (ret_row2 rfl rfl (setRow_in _ _ _ (vc zeroV none 0 0).toArray _ A10.out) Try.underlying26 rfl s26) rfl ?_
    exact ⟨below_setRow HB10.out (Nat.le_refl _) _, .inr ⟨fun v hv e => HN.out v hv (fram_inj (HL.out.symm.trans e)).2, rfl⟩⟩
  have HG := Lib.hid hg
  rw [decide_eq_true hg]
  clear hg R9
  go_wp2_with (first | (refine wpList_store_row rfl 26 _ _ rfl w.heap.size (vc zeroV none 0 0).toArray (vc v A9 n9 c9).toArray _ rfl rfl A10.out s26 rfl (all_oneCell_toArray (vc_one v _ _ _)) ?_) | (refine wpList_load_row rfl 26 _ rfl w1.heap.size rfl _ _ _ G10.out _ Try.underlying26 rfl s26 ?_) | fail)
  refine bodyPost_ret (ret_row2 rfl rfl (setRow_in _ _ _ (vc v A9 n9 c9).toArray _ A10.out) Try.underlying26 rfl s26) rfl ?_
  exact ⟨below_setRow HB10.out (Nat.le_refl _) _, .inl ⟨v, HG.out, by rw [HL.out, HE.out]; rfl, A9, n9, c9, (D10.out.off_row A10.out (no_u8 (vc_no_u8 _ _ _ _)) _).more (by simp [World.setRow]), rfl⟩⟩
end Go.Proofs.Ytfignanjelebaaa
