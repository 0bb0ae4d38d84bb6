/- path.Split, walked. -/
import Derived.Test.YtkkfndilgoamkaaCut
import Derived.WalkMore
import Derived.ScopeJumps
import Derived.Deep.DrawnRows
import Derived.Lib.AppendZeros
namespace Go.Proofs.Ytkkfndilgoamkaa
open Go.RowKit
set_option linter.unusedVariables false

/-- A scope in which the run comes to a label first, and goes back to it. -/
theorem wp_scope_loop {P : Program} {Q : Exit → Act → World → Prop} {a : Act} {w : World} {c rest : Code} (l : Nat) (J : Act → World → Prop) (μ : Act → World → Nat) (hf : findLabel c l = some (Code.seq Code.skip rest))
    (first : (∀ a w, J a w → rest.wp P (Exit.jump l J Q) a w) → c.wp P (Exit.jump l J Q) a w)
    (pass : ∀ a w, J a w → rest.wp P (Exit.jump l (fun a' w' => J a' w' ∧ μ a' w' < μ a w) Q) a w) : (Code.scope c).wp P Q a w :=
  wp_scope_jumps l J μ hf (first fun a w h => Code.wp_mono (fun e a' w' hq => by
    cases e <;> first | exact hq | exact ⟨hq.1, hq.2.1⟩) (pass a w h)) (fun a w h => wp_seq (wp_skip (pass a w h)))

def todo (m : Bool) (l : List UInt8) : List (List UInt8) := if m = true then parts l else []
def CutPost (l : List UInt8) (w : World) (e : Ending) (w' : World) : Prop := ∃ p r m, e = .returned (.tuple #[.string (bs p), .string (bs r), .bool m]) ∧ parts l = p :: todo m r ∧ (m = true → r.length < l.length) ∧ r.length ≤ l.length ∧ Below w.heap.size w w'
theorem cut_any (l : List UInt8) (w : World) (hl : l.length ≤ 1000000) : Calls Try.prog 22 #[.string (bs l), .string ⟨#[47]⟩] w (CutPost l w) := by
  by_cases h : 47 ∈ l
  · obtain ⟨p, r, rfl, hp⟩ := cut_parts l h
    refine (cut_yes p r w hp hl).mono ?_
    rintro e w' ⟨rfl, hb⟩
    exact ⟨p, r, true, rfl, by simp [parts_cut hp, todo], fun _ => by simp; omega, by simp; omega, hb⟩
  · refine (cut_no l w h).mono ?_
    rintro e w' ⟨rfl, hb⟩
    exact ⟨l, [], false, rfl, by simp [parts_none h, todo], fun h => (by cases h), by simp, hb⟩
def sv (p : List UInt8) : Value := .string (bs p)
/-- A slice of the call's own, that holds the texts ns. -/
def Own (w : World) (base : Nat) (v : Value) (ns : List (List UInt8)) : Prop := w.ownsRow base 9 1 v ns.length (ns.map sv)
theorem Own.nil (w : World) (base : Nat) : Own w base (.slice none 0 0) [] := World.ownsRow_nil _ _ _ _
theorem Own.form {w : World} {base : Nat} {v : Value} {ns : List (List UInt8)} (h : Own w base v ns) : ∃ A c, v = .slice A ns.length c ∧ ns.length ≤ c ∧ c ≤ maxLen := by
  rcases h.2 with ⟨rfl, h0⟩ | ⟨g, cap, cur, rfl, _, _, hn, hm, _⟩
  · exact ⟨none, 0, by rw [h0], by omega, by decide⟩
  · exact ⟨_, _, rfl, hn, hm⟩
theorem Own.strs {w : World} {base : Nat} {v : Value} {ns : List (List UInt8)} (h : Own w base v ns) : ∃ A c, v = .slice A ns.length c ∧ Strs w w.heap.size A ns.length c ns := by
  rcases h.2 with ⟨rfl, h0⟩ | ⟨g, cap, cur, rfl, hg, hh, hn, hm, hs, ht⟩
  · have : ns = [] := List.length_eq_zero_iff.1 h0
    subst this
    exact ⟨none, 0, rfl, Strs.nil_ _ _⟩
  · refine ⟨_, _, rfl, rfl, hn, hm, (fun h => by cases h), fun h0 => ⟨g, 0, rfl, (Array.getElem?_eq_some_iff.1 hh).1, fun j hj => ?_⟩⟩
    rw [Nat.zero_add, cell_of_row w g j cur 9 (0, 0) hh]
    have e : cur.toList[j]? = (ns.map sv)[j]? := by
      rw [← ht, List.getElem?_take, if_pos (by omega)]
    rw [← Array.getElem?_toList, e]
    simp [hj, sv]
theorem Own.below {w w' : World} {base : Nat} {v : Value} {ns : List (List UInt8)} (h : Own w base v ns) (hb : Below w.heap.size w w') : Own w' base v ns := by
  refine ⟨h.1, ?_⟩
  rcases h.2 with hn | ⟨g, cap, cur, rfl, hg, hh, rest⟩
  · exact .inl hn
  · refine .inr ⟨g, cap, cur, rfl, hg, ?_, rest⟩
    rw [hb.block g (Array.getElem?_eq_some_iff.1 hh).1]
    exact hh
theorem Own.drop {w : World} {base : Nat} {A : Option Addr} {c : Nat} {ns : List (List UInt8)} (h : Own w base (.slice A ns.length c) ns) : Own w base (.slice A (ns.length - 1) c) ns.dropLast := by
  refine ⟨by simp, ?_⟩
  rcases h.2 with ⟨e, h0⟩ | ⟨g, cap, cur, e, hg, hh, hn, hm, hs, ht⟩
  · simp only [Value.slice.injEq] at e
    obtain ⟨rfl, _, rfl⟩ := e
    exact .inl ⟨by rw [h0], by simp; omega⟩
  · cases e
    refine .inr ⟨g, c, cur, by simp, hg, hh, by simp; omega, hm, hs, ?_⟩
    rw [List.length_dropLast, List.map_dropLast, ← ht, List.dropLast_eq_take, List.take_take]
    congr 1
    simp
    omega
theorem str_info : (Try.prog.info? 9).map (fun i => (i.zero, i.size, i.bytes)) = some (some (.string ⟨#[]⟩), 1, 16) := by kernel_rfl
def Apps (w : World) (base : Nat) (v : Value) (ns : List (List UInt8)) (p : List UInt8) (v' : Value) (w' : World) : Prop :=
  (Builtin.append_ #[22, 22] 22 #[v, .slice (some ⟨w.heap.size, 0, none⟩) 1 1]).run Try.prog (w.alloc (.cells #[.string (bs p)] 9)) = .ok v' w' ∧ Own w' base v' (ns ++ [p]) ∧ ∀ w0, Below base w0 w → Below base w0 w'
theorem app_one {w : World} {base : Nat} {v : Value} {ns : List (List UInt8)} (p : List UInt8) (h : Own w base v ns) (hn : ns.length ≤ 8) (hb : base ≤ w.heap.size) : ∃ v' w', Apps w base v ns p v' w' := by
  obtain ⟨i0, hi, hz0, hz1, hz2⟩ := info_parts str_info
  have h' : (w.alloc (.cells #[.string (bs p)] 9)).ownsRow base 9 1 v ns.length (ns.map sv) := World.ownsRow.alloc h _
  obtain ⟨v', w', hr, h2, h3, _⟩ := run_append_own (P := Try.prog) (w.alloc (.cells #[.string (bs p)] 9)) base 22 22 9 i0 _ 1 16 Try.underlying22 hi hz0 hz1 hz2 rfl (by decide) v ns.length (ns.map sv) h' ⟨w.heap.size, 0, none⟩ 1 1 [sv p] (by simp)
    (fun j u hu => by
      cases j with
      | zero =>
        simp at hu
        subst hu
        rw [Addr.add_lit]
        exact cell_of_row _ _ _ _ _ _ (heap_alloc_new w _)
      | succ j => simp at hu) (fun u hu => by simp at hu; subst hu; rfl) (by unfold maxLen; omega) (by omega) (by simp; omega)
  refine ⟨v', w', hr, by simpa [Own] using h2, fun w0 h0 => ?_⟩
  exact (h0.alloc hb _).grown h3 (by simp; omega) (fun j hj => (h'.lt j hj).1)

/-- What holds at the label. -/
def Jmp (w : World) (s : Value) (R : List (List UInt8) × Int) (a' : Act) (w' : World) : Prop := Below w.heap.size w w' ∧ ∃ (m : Bool) (l : List UInt8) (ns : List (List UInt8)) (v : Value), goes ns (todo m l) = R ∧ l.length ≤ 96 ∧ ns.length ≤ 8 ∧ Own w' w.heap.size v ns ∧
  ∃ u7 u8 u9 u10 u11 u12 u13 u14 u15 u16 u17 u18 u19 u20 u21 u22 u23 u24 u25 u26 u27 u28 u29 u30 u31 u32 u33 u34 u35 u36 u37 u38 u39 u40 u41 u42 u43 u44 u45 u46 u47 u48 u49 : Value, a' = { tmps := #[s, undef, .slice none 0 0, .int .i64 0, .string (bs l), .bool m, v, u7, u8, u9, u10, u11, u12, u13, u14, u15, u16, u17, u18, u19, u20, u21, u22, u23, u24, u25, u26, u27, u28, u29, u30, u31, u32, u33, u34, u35, u36, u37, u38, u39, u40, u41, u42, u43, u44, u45, u46, u47, u48, u49], defers := [] }
theorem Jmp.mk {w w' : World} {s : Value} {R : List (List UInt8) × Int} {m : Bool} {l : List UInt8} {ns : List (List UInt8)} {v : Value} (hb : Below w.heap.size w w') (h1 : goes ns (todo m l) = R) (h2 : l.length ≤ 96) (h3 : ns.length ≤ 8) (h4 : Own w' w.heap.size v ns)
    {u7 u8 u9 u10 u11 u12 u13 u14 u15 u16 u17 u18 u19 u20 u21 u22 u23 u24 u25 u26 u27 u28 u29 u30 u31 u32 u33 u34 u35 u36 u37 u38 u39 u40 u41 u42 u43 u44 u45 u46 u47 u48 u49 : Value} : Jmp w s R { tmps := #[s, undef, .slice none 0 0, .int .i64 0, .string (bs l), .bool m, v, u7, u8, u9, u10, u11, u12, u13, u14, u15, u16, u17, u18, u19, u20, u21, u22, u23, u24, u25, u26, u27, u28, u29, u30, u31, u32, u33, u34, u35, u36, u37, u38, u39, u40, u41, u42, u43, u44, u45, u46, u47, u48, u49], defers := [] } w' := ⟨hb, m, l, ns, v, h1, h2, h3, h4, _, _, _, _, _, _, _, _, _, _, _, _, _, _, _, _, _, _, _, _, _, _, _, _, _, _, _, _, _, _, _, _, _, _, _, _, _, _, _, _, _, _, _, rfl⟩
def meas (a : Act) (_ : World) : Nat := match a.tmps.getD 5 undef, a.tmps.getD 4 undef with
  | .bool true, .string s => s.size + 1
  | _, _ => 0
theorem meas_lt {l q : List UInt8} {m : Bool} {v v' : Value} (h : m = true → q.length < l.length) {x0 x1 x2 x3 y0 y1 y2 y3 : Value} {us vs : List Value} {w w' : World} : meas { tmps := (y0 :: y1 :: y2 :: y3 :: .string (bs q) :: .bool m :: v' :: vs).toArray, defers := [] } w' < meas { tmps := (x0 :: x1 :: x2 :: x3 :: .string (bs l) :: .bool true :: v :: us).toArray, defers := [] } w := by
  cases m with
  | false => show 0 < (bs l).size + 1; omega
  | true =>
    show (bs q).size + 1 < (bs l).size + 1
    rw [bs_size, bs_size]
    have := h rfl
    omega
/-- What is told: the names, an error; the names lie in memory of the call's own. -/
def Splits (w : World) (R : List (List UInt8) × Int) (e : Ending) (w' : World) : Prop := ∃ A c, e = .returned (.tuple #[.slice A R.1.length c, .int .i64 R.2]) ∧ Strs w' w'.heap.size A R.1.length c R.1 ∧ Below w.heap.size w w'
theorem Splits.none {w w' : World} {x : Int} (hb : Below w.heap.size w w') : Splits w ([], x) (.returned (.tuple #[.slice .none 0 0, .int .i64 x])) w' := ⟨.none, 0, rfl, Strs.nil_ _ _, hb⟩
theorem Splits.own {w w' : World} {v : Value} {ns : List (List UInt8)} (h : Own w' w.heap.size v ns) (hb : Below w.heap.size w w') : Splits w (ns, 0) (.returned (.tuple #[v, .int .i64 0])) w' := by
  obtain ⟨A, c, rfl, hs⟩ := h.strs
  exact ⟨A, c, rfl, hs, hb⟩
end Go.Proofs.Ytkkfndilgoamkaa
