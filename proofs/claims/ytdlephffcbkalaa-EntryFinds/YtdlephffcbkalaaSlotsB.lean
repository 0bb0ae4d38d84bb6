/- Slots, walked. -/
import Derived.Test.YtdlephffcbkalaaSlots
namespace Go.Proofs.Ytdlephffcbkalaa
open Go.RowKit Go.Shelf
set_option linter.unusedVariables false
attribute [local go_sem] Oper.semAt_some

def SlotsP (w : World) (o : Option (List Rw)) (e : Ending) (w' : World) : Prop :=
  match o with
  | none => e = .returned (.tuple #[.slice none 0 0, .int .i64 2]) ∧ Below w.heap.size w w'
  | some l => ∃ v, e = .returned (.tuple #[v, .int .i64 0]) ∧ OwnR w' w.heap.size v l ∧ Below w.heap.size w w'
/-- The world ahead of the rounds. -/
def begun (w : World) (A : Option Addr) (len cap : Nat) : World := ((((w.alloc (.cells #[.slice none 0 0] 35)).alloc (.cells #[.int .i64 0] 25)).alloc (.cells #[.slice none 0 0] 35)).alloc (.cells #[.slice A len cap] 24)).alloc (.cells #[.int .i64 32] 3)
theorem begun_inv (w : World) (A : Option Addr) (len cap : Nat) (b : List UInt8) : Inv w A cap b (len := len) [] (begun w A len cap) ∧ (begun w A len cap).heap.size = w.heap.size + 1 + 1 + 1 + 1 + 1 := by
  have h1 := Boxed.new w 35 (.slice none 0 0)
  have h2 := Boxed.new (w.alloc (.cells #[.slice none 0 0] 35)) 25 (.int .i64 0)
  have h3 := Boxed.new ((w.alloc (.cells #[.slice none 0 0] 35)).alloc (.cells #[.int .i64 0] 25)) 35 (.slice none 0 0)
  have h4 := Boxed.new (((w.alloc (.cells #[.slice none 0 0] 35)).alloc (.cells #[.int .i64 0] 25)).alloc (.cells #[.slice none 0 0] 35)) 24 (.slice A len cap)
  have h5 := Boxed.new ((((w.alloc (.cells #[.slice none 0 0] 35)).alloc (.cells #[.int .i64 0] 25)).alloc (.cells #[.slice none 0 0] 35)).alloc (.cells #[.slice A len cap] 24)) 3 (.int .i64 32)
  simp only [World.size_alloc] at h1 h2 h3 h4 h5
  refine ⟨⟨⟨_, (h3.alloc _).alloc _, World.ownsRow_nil _ _ _ _, trivial⟩, (((h1.alloc _).alloc _).alloc _).alloc _, ((h2.alloc _).alloc _).alloc _, h4.alloc _, h5, ?_, rfl⟩, by simp [begun]⟩
  exact ((((box_below w _).alloc (by simp) _).alloc (by simp; omega) _).alloc (by simp; omega) _).alloc (by simp; omega) _
set_option maxRecDepth 100000 in
set_option maxHeartbeats 4000000 in
theorem slots_in {w : World} {len cap : Nat} {A : Option Addr} {b : List UInt8} (hI : Bts w w.heap.size A len cap b) (hlen : len ≤ 140737488355328) :
    CallsIn Fence.wide 3 Try.prog 14 #[.slice A len cap] w (SlotsP w (slots b)) := by
  obtain ⟨o, ho⟩ : ∃ o, slots b = o := ⟨_, rfl⟩
  rw [ho]
  have HO := Lib.hid ho
  clear ho
  obtain ⟨bb, off, hA⟩ : ∃ bb off, 0 < len → A = some ⟨bb, off, none⟩ := by
    by_cases h0 : 0 < len
    · obtain ⟨bb, off, e, _⟩ := hI.at_ h0
      exact ⟨bb, off, fun _ => e⟩
    · exact ⟨0, 0, fun h => absurd h h0⟩
  have HA := Lib.hid hA
  have HI := Lib.hid hI
  have HL := Lib.hid hI.len
  have hlim := hI.lim
  have hcap := hI.cap
  unfold maxLen at hlim
  have HN : Hid (nch b = nparts len) := by show _ = _; unfold nch nparts; rw [HL.out]
  have hnp : nparts len ≤ 4398046511105 := by unfold nparts; omega
  clear hI hA
  obtain ⟨b1, b2⟩ := begun_inv w A len cap b
  have B1 := Lib.hid b1
  have B2 := Lib.hid b2
  clear b1 b2
  refine callsIn_of_wp_marks Try.func14 rfl trivial ?_ rfl
  simp only [Try.ntmps14, List.size_toArray, List.length_cons, List.length_nil, Nat.reduceAdd, Nat.reduceSub, Array.replicate_succ, Array.replicate_zero, List.push_toArray, List.append_toArray, List.nil_append, List.cons_append]
  gi_wp2_with fail
  refine ⟨trivial, (chunk_in _ _ _ _ _).mono ?_⟩
  rintro e w' ⟨rfl, rfl⟩
  gi_wp2_with fail
  obtain ⟨i1, i2, i3, i4, i5, i6, i7⟩ := B1.out
  refine wpIn_rangeFunc_ownG (w := begun w A len cap) rfl (by omega) (gf := 33) (lb := #[.pointer (some ⟨w.heap.size + 1 + 1 + 1, 0, none⟩), .pointer (some ⟨w.heap.size + 1 + 1 + 1 + 1, 0, none⟩)]) rfl trivial (enters_of Try.func33 (by kernel_rfl) rfl)
    (chunk_stops 2 (by omega) (w.heap.size + 1 + 1 + 1) (w.heap.size + 1 + 1 + 1 + 1) w.heap.size bb off A len cap (begun w A len cap) (by rw [B2.out]; omega) (by rw [B2.out]; omega) HA.out hcap hlim hlen i4.cell i5.cell)
    KB.trans (KB.putObj (by rw [B2.out]; omega) (by rw [B2.out]; omega) (by rw [B2.out]; omega)) (Below.refl _ _) (fun _ => rfl)
    (Inv w A cap b) (InvX w b) (inv_own w A cap b (by rw [B2.out]; omega)) (invX_own w b (by rw [B2.out]; omega)) B1.out
    (fun x => { tmps := #[.slice A len cap, undef, .pointer (some ⟨w.heap.size, 0, none⟩), .pointer (some ⟨w.heap.size + 1, 0, none⟩), .pointer (some ⟨w.heap.size + 1 + 1, 0, none⟩), .slice (some ⟨bb, off + 32 * x.1, none⟩) (plen len x.1) (plen len x.1), undef, undef, undef, .slice A len cap, .func (.func 33) #[] #[.pointer (some ⟨w.heap.size + 1 + 1 + 1, 0, none⟩), .pointer (some ⟨w.heap.size + 1 + 1 + 1 + 1, 0, none⟩)], .slice (some ⟨bb, off + 32 * x.1, none⟩) (plen len x.1) (plen len x.1), undef, undef, undef, undef, undef, undef, undef, undef, undef, undef, undef, undef, undef, undef, undef, undef, undef, undef, undef, undef, undef], defers := [] }) ?assign ?body ?done ?stop
  case assign =>
    intro l x W K hK
    gi_wp2
    exact hK
  case body =>
    clear i1 i2 i3 i4 i5 i6 i7
    rintro l pre x W ⟨⟨v, j1, j2, _⟩, j3, j4, j5, j6, j7, j8⟩ hp
    have hx := x.2
    have hx0 : 32 * x.1 < len := by unfold nparts at hx; omega
    have hA := HA.out (by omega)
    have hB0 := HI.out.below j7
    rw [hA] at hB0
    have hB1 := hB0.sub3 (s := 32 * x.1) (m := plen len x.1) (by unfold plen; omega)
    rw [plen_take HL.out] at hB1
    have hD := dec_any hB1 j7.size
    have HRW : Hid (rowsOf b ((pre ++ [x]).map (·.1)) = rowsOf b (pre.map (·.1)) ++ [(dec (prt b x.1)).getD emp]) := by show _ = _; simp [rowsOf]
    have HOK : Hid (oksOf b ((pre ++ [x]).map (·.1)) = (oksOf b (pre.map (·.1)) && (dec (prt b x.1)).isSome)) := by show _ = _; simp [oksOf]
    have hRL : (rowsOf b (pre.map (·.1))).length = pre.length := by simp [rowsOf]
    clear hB0 hB1
    have HD := Lib.hid hD
    clear hD hA
    obtain ⟨q, hq⟩ : ∃ q, dec (prt b x.1) = q := ⟨_, rfl⟩
    rw [hq] at HD HRW HOK
    clear hq
    have J1 := Lib.hid j1
    have J2 := Lib.hid j2
    have J3 := Lib.hid j3
    have J4 := Lib.hid j4
    have J5 := Lib.hid j5
    have J6 := Lib.hid j6
    have J7 := Lib.hid j7
    have J8 := Lib.hid j8
    have hpl : pre.length ≤ 5000000000000 := by omega
    rw [← hRL] at hpl
    clear j1 j2 j3 j4 j5 j6 j7 j8 hRL
    generalize rowsOf b (pre.map (·.1)) = rs at *
    have HZ : Hid (w.heap.size + 1 + 1 + 1 + 1 < W.heap.size) := J6.out.lt
    cases q with
    | none =>
      gi_wp2_with fail
      refine ⟨trivial, CallsIn.mono (callsR HD.out) ?_⟩
      intro e w2 hd
      obtain ⟨rfl, hb2⟩ := decP_none hd
      clear hd HD
      have hb3 : Below W.heap.size W (w2.alloc (Obj.cells #[.string (bs []), .int .i64 0] 23)) := hb2.trans ((box_below w2 _).mono hb2.size)
      have k3 := Boxed.below J3.out hb3
      have k4 := Boxed.below J4.out hb3
      have c3 := k3.cell
      have f3 := k3.frozen
      have c4 := k4.cell
      have f4 := k4.frozen
      have K3 := Lib.hid k3
      have K4 := Lib.hid k4
      have KB3 := Lib.hid hb3
      clear hb2 hb3 k3 k4
      gi_wp2_with fail
      generalize w2.alloc (Obj.cells #[.string (bs []), .int .i64 0] 23) = Wa at *
      refine ⟨(keeps_below KB3.out).trans (((KeepsOthers.setCell _ _ _).trans (KeepsOthers.setCell _ _ _)).from _), ?_, ?_, ?_, rfl, ?_⟩
      · exact (K3.out.set _).kept (grownBy_setCell' _ _ _) (by simp)
      · exact (K4.out.kept (grownBy_setCell' _ _ _) (by simp)).set _
      · exact ((J7.out.trans (KB3.out.mono J7.out.size)).setCell (p := ⟨w.heap.size, 0, none⟩) (Nat.le_refl _) _).setCell (p := ⟨w.heap.size + 1, 0, none⟩) (by show w.heap.size ≤ w.heap.size + 1; omega) _
      · rw [HOK.out]; simp
    | some r =>
      gi_wp2_with fail
      refine ⟨trivial, CallsIn.mono (callsR HD.out) ?_⟩
      intro e w2 hd
      obtain ⟨rfl, hb2⟩ := decP_some hd
      clear hd HD
      have hb3 : Below W.heap.size W (w2.alloc (Obj.cells #[.string (bs r.1), .int .i64 r.2] 23)) := hb2.trans ((box_below w2 _).mono hb2.size)
      have k1 := Boxed.below J1.out hb3
      have k3 := Boxed.below J3.out hb3
      have k4 := Boxed.below J4.out hb3
      have k5 := Boxed.below J5.out hb3
      have k6 := Boxed.below J6.out hb3
      have ko : OwnR (w2.alloc (Obj.cells #[.string (bs r.1), .int .i64 r.2] 23)) w.heap.size v rs := OwnR.below J2.out hb3
      have hsz : w.heap.size ≤ (w2.alloc (Obj.cells #[.string (bs r.1), .int .i64 r.2] 23)).heap.size := Nat.le_trans J7.out.size hb3.size
      obtain ⟨v', w', hr, ho, hgr⟩ := appR_raw r ko hpl hsz
      obtain ⟨a1, a2, a3, a4, a5⟩ := Boxed.appended k1 (by decide) ko hsz (by omega) ho hgr
      have hlen' : (rs ++ [r]).length = rs.length + 1 := by simp
      obtain ⟨g, cp, hv'⟩ := ownsRow_succ (hlen' ▸ ho : w'.ownsRow w.heap.size 23 2 v' (rs.length + 1) ((rs ++ [r]).flatMap rc))
      have hn1 : ∀ {B : Nat} {t : TypeId} {u : Value}, Boxed (w2.alloc (Obj.cells #[.string (bs r.1), .int .i64 r.2] 23)) B t u → t ≠ 23 → B ≠ w.heap.size + 1 + 1 → Boxed (w'.setCell ⟨w.heap.size + 1 + 1, 0, none⟩ v') B t u := fun hB ht hne => ((hB.alloc _).kept hgr (hB.not_row ht ko)).kept (grownBy_setCell' _ _ _) (by simpa using hne)
      have K3 := Lib.hid (hn1 k3 (by decide) (by omega))
      have K4 := Lib.hid (hn1 k4 (by decide) (by omega))
      have K5 := Lib.hid (hn1 k5 (by decide) (by omega))
      have K6 := Lib.hid (hn1 k6 (by decide) (by omega))
      have A2 := Lib.hid a2
      have A3 := Lib.hid a3
      have A4 := Lib.hid ((keeps_below (B := (begun w A len cap).heap.size) hb3).trans (a4.from _))
      have A5 := Lib.hid ((hb3.mono J7.out.size).trans a5)
      have hz : (w2.alloc (Obj.cells #[.string (bs r.1), .int .i64 r.2] 23)).heap.size = w2.heap.size + 1 := by simp
      rw [hz] at hr
      have HR := Lib.hid hr
      have c1 := k1.cell
      have c1' := a1.cell
      have f1' := a1.frozen
      clear hb2 hb3 k1 k3 k4 k5 k6 ko hsz hr ho hgr a1 a2 a3 a4 a5 hlen' hn1 hz
      subst hv'
      gi_wp2_with (gi_at_builtin; refine wpListIn_append_run _ rfl _ _ 35 rfl _ _ rfl rfl _ _ HR.out ?_)
      refine ⟨A4.out, ⟨A5.out, ?_, ?_⟩, ⟨_, A2.out, ?_, trivial⟩, K3.out, K4.out, K5.out, K6.out, J7.out.trans A5.out, ?_⟩
      · exact K5.out.trans J5.out.symm
      · exact K6.out.trans J6.out.symm
      · rw [HRW.out]; exact A3.out
      · rw [HOK.out, J8.out]; rfl
  case done =>
    rintro D ys W hD hys ⟨⟨v, j1, j2, _⟩, j3, j4, j5, j6, j7, j8⟩ hK
    rw [hys] at j2 j8
    have hr : rowsOf b (List.range (nparts len)) = rws b (nch b) := by rw [HN.out]; rfl
    have hk : oks b (nch b) = true := by rw [HN.out]; exact j8
    rw [hr] at j2
    have hOR : OwnR W w.heap.size v (rws b (nch b)) := j2
    have hRL : (rws b (nch b)).length ≤ 5000000000000 := by rw [rws_len, HN.out]; omega
    have hDW : D < W.heap.size := (Array.getElem?_eq_some_iff.1 hK).1
    have hD5 : w.heap.size + 1 + 1 + 1 + 1 + 1 ≤ D := by rw [B2.out] at hD; exact hD
    clear hr j8 hys i1 i2 i3 i4 i5 i6 i7 j2 j5 j6 hD
    generalize hrs : rws b (nch b) = rs at *
    have HRS := Lib.hid hrs
    have HOK := Lib.hid hk
    obtain ⟨A1, c1, rfl, hRws⟩ := hOR.rws
    have HNM := Lib.hid (names_any hRws (Nat.le_refl _) hRL)
    have J1 := Lib.hid j1
    have J3 := Lib.hid j3
    have J4 := Lib.hid j4
    have J7 := Lib.hid j7
    have JO := Lib.hid hOR
    have JK := Lib.hid hK
    have c1' := j1.cell
    clear j1 j3 j4 j7 hOR hK hRws hrs hk
    gi_wp2_with fail
    refine ⟨trivial, CallsIn.mono (callsW HNM.out) ?_⟩
    rintro e w1 ⟨u, rfl, hu, hb1⟩
    obtain ⟨A2, c2, rfl, hS2⟩ := hu.strs
    have HSL : Hid ((srt (nms rs)).length ≤ 5000000000000) := by show _ ≤ _; rw [srt_len]; exact Nat.le_trans (nms_len rs) hRL
    have HCM := Lib.hid (compact_any hu HSL.out)
    have hlim2 := hS2.lim
    have hcap2 := hS2.cap
    unfold maxLen at hlim2
    have HCP := Lib.hid (compact_srt (nms rs))
    have HB1 := Lib.hid hb1
    have HLL := HSL.out
    clear hu hb1 hS2 HNM c1'
    generalize (srt (nms rs)).length = m at *
    gi_wp2_with fail
    refine ⟨trivial, CallsIn.mono (callsW HCM.out) ?_⟩
    rintro e w2 ⟨⟨A3, c3, rfl⟩, hb2⟩
    have hb : Below W.heap.size W w2 := HB1.out.trans hb2
    have k1 := Boxed.below J1.out hb
    have k3 := Boxed.below J3.out hb
    have k4 := Boxed.below J4.out hb
    have d1 := k1.cell
    have d3 := k3.cell
    have e3 := k3.frozen
    have d4 := k4.cell
    have e4 := k4.frozen
    have K3 := Lib.hid k3
    have K4 := Lib.hid k4
    have KO := Lib.hid (OwnR.below JO.out hb)
    have KK := Lib.hid ((hb.block _ hDW).trans JK.out)
    have K7 := Lib.hid (J7.out.trans (hb.mono J7.out.size))
    have hcl : (Lib.compact (srt (nms rs))).length ≤ 9223372036854775807 := by
      have := compactUpTo_len (d := (srt (nms rs)).toArray) (srt (nms rs)).length
      have h2 : (Lib.compact (srt (nms rs))).length ≤ (srt (nms rs)).length := this
      have h3 : (srt (nms rs)).length ≤ rs.length := by rw [srt_len]; exact nms_len rs
      omega
    clear hb hb2 k1 k3 k4 HCM HB1 JO JK J7 J1 J3 J4
    generalize (Lib.compact (srt (nms rs))).length = p at *
    by_cases hpm : p < m
    · have hpm' : (p : Int) < (m : Int) := by omega
      obtain rfl : o = none := by rw [← HO.out]; exact slots_dup (by rw [HRS.out]; exact HCP.out.1 hpm)
      clear hpm
      gi_wp2_with fail
      have q3 : Boxed ((w2.setCell ⟨w.heap.size, 0, none⟩ (.slice none 0 0)).setCell ⟨w.heap.size + 1, 0, none⟩ (.int .i64 2)) w.heap.size 35 (.slice none 0 0) := (K3.out.set _).kept (grownBy_setCell' _ _ _) (by simp)
      have q4 : Boxed ((w2.setCell ⟨w.heap.size, 0, none⟩ (.slice none 0 0)).setCell ⟨w.heap.size + 1, 0, none⟩ (.int .i64 2)) (w.heap.size + 1) 25 (.int .i64 2) := (K4.out.kept (grownBy_setCell' _ _ _) (by simp)).set _
      have q7 := (K7.out.setCell (p := ⟨w.heap.size, 0, none⟩) (Nat.le_refl _) (.slice none 0 0)).setCell (p := ⟨w.heap.size + 1, 0, none⟩) (by show w.heap.size ≤ w.heap.size + 1; omega) (.int .i64 2)
      have qK : ((w2.setCell ⟨w.heap.size, 0, none⟩ (.slice none 0 0)).setCell ⟨w.heap.size + 1, 0, none⟩ (.int .i64 2)).heap[D]? = some (Obj.deferred (some [])) := (Below.heap_setCell _ _ _ _ (by show D ≠ w.heap.size + 1; omega)).trans ((Below.heap_setCell _ _ _ _ (by show D ≠ w.heap.size; omega)).trans KK.out)
      refine ⟨by simp, .inl ⟨_, _, rfl, run_takeDeferred qK, ?_⟩⟩
      refine ⟨_, ret_two rfl rfl rfl (load35 (q3.kept (grownBy_putObj' _ _ _) (by simp; omega))) (load25 (q4.kept (grownBy_putObj' _ _ _) (by simp; omega))), rfl, ?_⟩
      exact q7.trans (belowK_b (w := w) (Nat.le_refl _) _ D _ _ (by omega) qK rfl rfl)
    · have hpm' : ¬ (p : Int) < (m : Int) := by omega
      obtain rfl : o = some rs := by
        rw [← HO.out, ← HRS.out]
        exact slots_yes HOK.out (by rw [HRS.out]; exact Classical.not_not.1 fun h => hpm (HCP.out.2 h))
      clear hpm
      gi_wp2_with fail
      have q3 : Boxed ((w2.setCell ⟨w.heap.size, 0, none⟩ (.slice A1 rs.length c1)).setCell ⟨w.heap.size + 1, 0, none⟩ (.int .i64 0)) w.heap.size 35 (.slice A1 rs.length c1) := (K3.out.set _).kept (grownBy_setCell' _ _ _) (by simp)
      have q4 : Boxed ((w2.setCell ⟨w.heap.size, 0, none⟩ (.slice A1 rs.length c1)).setCell ⟨w.heap.size + 1, 0, none⟩ (.int .i64 0)) (w.heap.size + 1) 25 (.int .i64 0) := (K4.out.kept (grownBy_setCell' _ _ _) (by simp)).set _
      have q7 := (K7.out.setCell (p := ⟨w.heap.size, 0, none⟩) (Nat.le_refl _) (.slice A1 rs.length c1)).setCell (p := ⟨w.heap.size + 1, 0, none⟩) (by show w.heap.size ≤ w.heap.size + 1; omega) (.int .i64 0)
      have qK : ((w2.setCell ⟨w.heap.size, 0, none⟩ (.slice A1 rs.length c1)).setCell ⟨w.heap.size + 1, 0, none⟩ (.int .i64 0)).heap[D]? = some (Obj.deferred (some [])) := (Below.heap_setCell _ _ _ _ (by show D ≠ w.heap.size + 1; omega)).trans ((Below.heap_setCell _ _ _ _ (by show D ≠ w.heap.size; omega)).trans KK.out)
      have qO : OwnR ((w2.setCell ⟨w.heap.size, 0, none⟩ (.slice A1 rs.length c1)).setCell ⟨w.heap.size + 1, 0, none⟩ (.int .i64 0)) w.heap.size (.slice A1 rs.length c1) rs := by
        have n1 := K3.out.not_row (by decide) KO.out
        have n2 := K4.out.not_row (by decide) KO.out
        refine ownsRow_keep KO.out fun g hg => ?_
        rw [hg] at n1 n2
        exact (Below.heap_setCell _ _ _ _ (by show g ≠ w.heap.size + 1; intro e; exact n2 (by rw [e]))).trans (Below.heap_setCell _ _ _ _ (by show g ≠ w.heap.size; intro e; exact n1 (by rw [e])))
      refine ⟨by simp, .inl ⟨_, _, rfl, run_takeDeferred qK, ?_⟩⟩
      refine ⟨_, ret_two rfl rfl rfl (load35 (q3.kept (grownBy_putObj' _ _ _) (by simp; omega))) (load25 (q4.kept (grownBy_putObj' _ _ _) (by simp; omega))), _, rfl, ?_, ?_⟩
      · exact ownsRow_putObj qO _ qK rfl
      · exact q7.trans (belowK_b (w := w) (Nat.le_refl _) _ D _ _ (by omega) qK rfl rfl)
  case stop =>
    rintro D c pre W hD ⟨k, hk, hp⟩ ⟨j3, j4, j7, rfl, j8⟩ hK
    have hD5 : w.heap.size + 1 + 1 + 1 + 1 + 1 ≤ D := by rw [B2.out] at hD; exact hD
    obtain rfl : o = none := by
      rw [← HO.out]
      refine slots_oks ?_
      rw [Bool.eq_false_iff]
      intro h
      have h1 := oks_mono h (k := k) (by rw [HN.out]; exact hk)
      rw [hp] at j8
      have : oksOf b (List.range k) = true := h1
      rw [j8] at this
      cases this
    clear i1 i2 i3 i4 i5 i6 i7 j8 hp hk
    gi_wp2_with fail
    refine ⟨by simp, .inl ⟨_, _, rfl, run_takeDeferred hK, ?_⟩⟩
    refine ⟨_, ret_two rfl rfl rfl (load35 (j3.kept (grownBy_putObj' _ _ _) (by simp; omega))) (load25 (j4.kept (grownBy_putObj' _ _ _) (by simp; omega))), rfl, ?_⟩
    exact j7.trans (belowK_b (w := w) (Nat.le_refl _) _ D _ _ (by omega) hK rfl rfl)
theorem slots_any {w : World} {B n c : Nat} {A : Option Addr} {b : List UInt8} (h : Bts w B A n c b) (hB : B ≤ w.heap.size) (hn : n ≤ 140737488355328) : Calls Try.prog 14 #[.slice A n c] w (SlotsP w (slots b)) :=
  (callsIn_wide (n := 3)).1 (slots_in (h.more hB) hn)
end Go.Proofs.Ytdlephffcbkalaa
