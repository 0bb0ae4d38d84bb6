/- A store in memory, at rest; what bars a call; a store on a drive; a sector, as it would be. -/
import Derived.Test.YtijbgdihnjnllaaGreatSKeys
import Derived.Test.YtijbgdihnjnllaaGreatMD
namespace Go.Proofs.YtijbgdihnjnllaaGreat
open Go.RowKit
set_option linter.unusedVariables false
set_option maxRecDepth 20000

/-- The store's own cells. -/
def StoC (w : World) (p d q : Nat) : Prop := w.heap[p]? = some (.cells #[.pointer (some ⟨d, 0, none⟩), .map (some q), .bool false] 104 (0, 0))
/-- A store, its drive at rest: X: what is committed, m: what would be another. -/
structure Sto (w0 w : World) (p d : Nat) (O : List Nat) (N : Nat) (s : DS) (X : Secs2) (q : Nat) (m : List Wr) : Prop where
  ons : Ons w0 w d O N s X
  st : StoC w p d q
  map : MapAt w q m
  mok : MOk N m
  pO : p ∉ O
  qO : q ∉ O
  pf : w0.heap.size ≤ p
  qf : w0.heap.size ≤ q
section
variable {w0 w w' : World} {p d N q : Nat} {O : List Nat} {s : DS} {X : Secs2} {m : List Wr}
theorem StoC.lt (h : StoC w p d q) : p < w.heap.size := (Array.getElem?_eq_some_iff.1 h).1
theorem StoC.c0 (h : StoC w p d q) : w.cell? ⟨p, 0, none⟩ = some (.pointer (some ⟨d, 0, none⟩)) := cell_of_row _ _ 0 _ _ _ h
theorem StoC.c1 (h : StoC w p d q) : w.cell? ⟨p, 1, none⟩ = some (.map (some q)) := cell_of_row _ _ 1 _ _ _ h
theorem StoC.c2 (h : StoC w p d q) : w.cell? ⟨p, 2, none⟩ = some (.bool false) := cell_of_row _ _ 2 _ _ _ h
theorem StoC.keep (h : StoC w p d q) (he : w'.heap[p]? = w.heap[p]?) : StoC w' p d q := he.trans h
theorem Sto.below (h : Sto w0 w p d O N s X q m) (hb : Below w.heap.size w w') : Sto w0 w' p d O N s X q m :=
  ⟨h.ons.below hb, h.st.keep (hb.block p h.st.lt), h.map.below hb, h.mok, h.pO, h.qO, h.pf, h.qf⟩
theorem Sto.pq (h : Sto w0 w p d O N s X q m) : p ≠ q := by
  intro e
  obtain ⟨es, clock, hb, _⟩ := h.map
  have := h.st
  unfold StoC at this
  rw [e, hb] at this
  cases this
theorem Sto.n64 (h : Sto w0 w p d O N s X q m) : 64 ≤ N := h.ons.n64
theorem Sto.n1 (h : Sto w0 w p d O N s X q m) : N ≤ 1024 := h.ons.sit.drv.n64.2
theorem OnS.at_ {n : Nat} (h : OnS N s X) (hX : X.length = N) (hn : n < N) (hl : ¬ inLog n) : s.now[n]? = some (X[n]?.getD []) ∧ (X[n]?.getD []).length = 128 := by
  obtain ⟨L, hR, hw, hD⟩ := h
  have e := hD.plain hn hl
  have hlt : n < L.length := by rw [hw.len]; exact hn
  rw [hR.now, ← e, List.getElem?_eq_getElem hlt]
  exact ⟨rfl, hw.all _ (List.getElem_mem _)⟩
theorem Sto.view_len (h : Sto w0 w p d O N s X q m) {n : Nat} (hn : n < N) (hl : ¬ inLog n) : (view X m n).length = 128 := by
  unfold view
  cases hf : find m n with
  | none => exact (h.ons.on.at_ h.ons.len hn hl).2
  | some x =>
    unfold find at hf
    rw [Option.map_eq_some_iff] at hf
    obtain ⟨a, ha, rfl⟩ := hf
    exact (h.mok.all a (List.mem_of_find?_eq_some ha)).2.2
end
theorem barred_ok {w : World} {p d q : Nat} (h : StoC w p d q) : Calls Tryz.prog 39 #[.pointer (some ⟨p, 0, none⟩)] w fun e w' => e = .returned (.int .i64 0) ∧ w = w' := by
  have c0 := h.c0
  have c2 := h.c2
  clear h
  go_enter Tryz.func39, Tryz.ntmps39
  go_wp2
  go_ret
  exact ⟨rfl, rfl⟩
theorem on_any (d : Nat) (w : World) : Calls Tryz.prog 32 #[.pointer (some ⟨d, 0, none⟩)] w fun e w' => e = .returned (.pointer (some ⟨w.heap.size + 1, 0, none⟩)) ∧ StoC w' (w.heap.size + 1) d w.heap.size ∧ MapAt w' w.heap.size [] ∧ Below w.heap.size w w' := by
  have hmm := @run_makeMap Tryz.prog
  go_enter Tryz.func32, Tryz.ntmps32
  go_wp2
  go_ret
  obtain ⟨a0, a1, a2, a3⟩ := D.box2 w (.map #[] 0) (.cells #[.pointer (some ⟨d, 0, none⟩), .map (some w.heap.size), .bool false] 104)
  exact ⟨rfl, a1, (MapAt.new w).below ((Below.refl _ _).alloc (Nat.le_refl _) _), a2⟩
theorem s90 : (Tryz.prog.info? 144).map (·.size) = some 128 := by kernel_rfl
theorem splice_all {L cs : List Value} (h : cs.length = L.length) : splice L 0 cs = cs := by
  unfold splice
  rw [List.take_zero, List.nil_append, Nat.zero_add, h, List.drop_length, List.append_nil]
def SGet (w : World) (x : List UInt8) (e : Ending) (w' : World) : Prop := ∃ b, e = .returned (.tuple #[.slice (some ⟨b, 0, none⟩) 128 128, .int .i64 0]) ∧ w.heap.size ≤ b ∧ w'.heap[b]? = some (.cells (bc x).toArray 116 (0, 0)) ∧ Below w.heap.size w w'
set_option maxHeartbeats 1000000 in
theorem get_any {w0 w : World} {p d N q : Nat} {O : List Nat} {s : DS} {X : Secs2} {m : List Wr} (h : Sto w0 w p d O N s X q m) {n : Nat} (hn : n < N) (hl : ¬ inLog n) :
    Calls Tryz.prog 60 #[.pointer (some ⟨p, 0, none⟩), .int .i64 n] w (SGet w (view X m n)) := by
  have H := Lib.hid h
  have hn1 := h.n1
  obtain ⟨o, ho⟩ : ∃ o, find m n = o := ⟨_, rfl⟩
  have HV : Hid (view X m n = o.getD (X[n]?.getD [])) := by show _ = _; unfold view; rw [ho]
  have HO := Lib.hid ho
  have HL := Lib.hid (h.view_len hn hl)
  obtain ⟨hx, hxl⟩ := h.ons.on.at_ h.ons.len hn hl
  have HX := Lib.hid hx
  have HXL := Lib.hid hxl
  have hc0 := h.st.c0
  clear ho hx hxl h
  generalize view X m n = V at *
  go_enter Tryz.func60, Tryz.ntmps60
  go_wp2_with fail
  refine (barred_ok H.out.st).mono ?_
  rintro e w1 ⟨rfl, rfl⟩
  go_wp2_with fail
  refine (get_ok n H.out.ons.sit.drv H.out.ons.on.down HX.out).mono ?_
  rintro e w1 ⟨b, rfl, hb1, hb2, hb3⟩
  have H1 := Lib.hid (H.out.below hb3)
  have HB1 := Lib.hid hb3
  have HB := Lib.hid hb2
  have hbl : b < w1.heap.size := (Array.getElem?_eq_some_iff.1 hb2).1
  clear hb2 hb3 hc0
  have hc1 := H1.out.st.c1
  have hlk := H1.out.map.look (k := n) (by omega) (by omega)
  rw [HO.out] at hlk
  have hz := zero90
  cases o with
  | none =>
    rw [show (Option.none (α := List UInt8)).getD zeros = zeros from rfl] at hlk
    simp only [Option.isSome_none] at hlk
    unfold sv at hlk hz
    obtain ⟨a0, a1, a2⟩ := D.box1 w1 (Obj.cells (bc zeros).toArray 144)
    have A1 := Lib.hid a1
    clear a0 a1 a2
    go_wp2_with (first | (refine wpList_store_new rfl 144 _ _ rfl w1 (bc zeros).toArray (bc zeros).toArray rfl rfl (by exact s90) rfl (all_oneCell_toArray (bc_one zeros)) ?_) | fail)
    go_ret2
    refine ⟨b, rfl, hb1, ?_, HB1.out.trans (A1.out.mono (Nat.le_trans (by omega) HB1.out.size))⟩
    rw [HV.out]
    exact (A1.out.block b hbl).trans HB.out
  | some x =>
    rw [show (Option.some x).getD zeros = x from rfl] at hlk
    simp only [Option.isSome_some] at hlk
    have e : V = x := HV.out
    subst e
    unfold sv at hlk hz
    have HI : Hid ((Tryz.prog.info? 144).map (·.size) = some (bc V).toArray.size) := by show _ = _; rw [s90]; simp [bc_len, HL.out]
    have HS : Hid ((bc zeros).toArray.size = (bc V).toArray.size) := by show _ = _; simp [bc_len, HL.out]; rfl
    obtain ⟨a0, a1, a2⟩ := D.box1 w1 (Obj.cells (bc V).toArray 144)
    have A0 := Lib.hid a0
    have A1 := Lib.hid a1
    obtain ⟨w2, hr2, hh2, hg2, hz2⟩ := D.copy_run (w := w1.alloc (.cells (bc V).toArray 144)) (dT := 27) (ty := 3) (elem := 5) Tryz.underlying27 (by kernel_rfl) (g := b) (off := 0) (dLen := 128) (dCap := 128) (sLen := 128) (sCap := 128) (ad := ⟨w1.heap.size, 0, none⟩) (L := bc (X[n]?.getD [])) (cs := bc V) (t := 116)
      ((a1.block b hbl).trans HB.out) (by rw [bc_len, HL.out]; rfl) (fun j v hj => by rw [Addr.add_lit, Nat.zero_add, cell_of a0, List.getElem?_toArray]; exact hj) (by rw [bc_len, bc_len, HL.out, HXL.out]; omega) (bc_one V)
    rw [show (goInt (bc V).length) = .int .i64 128 by rw [bc_len, HL.out]; rfl] at hr2
    rw [splice_all (by rw [bc_len, bc_len, HL.out, HXL.out])] at hh2
    have HR := Lib.hid hr2
    have HH := Lib.hid hh2
    have HG : Hid (Below w.heap.size w w2) := (HB1.out.trans (A1.out.mono HB1.out.size)).grown hg2 (by have := HB1.out.size; simp; omega) (fun j hj => by cases hj; exact hb1)
    clear hr2 hh2 hg2 hz2 a0 a1 a2
    have hr3 := HR.out
    go_wp2_with (first | (refine wpList_store_new rfl 144 _ _ rfl w1 (bc zeros).toArray (bc V).toArray rfl rfl HI.out HS.out (all_oneCell_toArray (bc_one V)) ?_) | fail)
    go_ret2
    exact ⟨b, rfl, hb1, HH.out, HG.out⟩
end Go.Proofs.YtijbgdihnjnllaaGreat
