/- For StoreBack: sectors taken one by one, and given back; a row of numbers that grows. -/
import Derived.Test.YthjjfncpongghaaGreatSAwake
namespace Go.Proofs.YthjjfncpongghaaGreat
open Go.RowKit
set_option linter.unusedVariables false
set_option maxRecDepth 20000

def takesM : Nat → List Wr
  | 0 => []
  | k + 1 => insAll [(34, markL (43 + k + 1)), (((43 + k : Nat) : Int), zeros)] (takesM k)
theorem takes_succ (k : Nat) : takesM (k + 1) = ins ((43 + k : Nat) : Int) zeros (ins ((34 : Nat) : Int) (markL (43 + k + 1)) (takesM k)) := rfl
theorem takes_view {X : Secs2} (h : X[34]?.getD [] = markL 43) (k : Nat) : view X (takesM k) 34 = markL (43 + k) := by
  cases k with
  | zero => exact h
  | succ k => rw [takes_succ, view_ins', view_ins', if_neg (by omega), if_pos rfl]; rfl
theorem takes_rise (k : Nat) : Rising (takesM k) := by
  induction k with
  | zero => exact List.Pairwise.nil
  | succ k ih => rw [takes_succ]; exact ins_rise (ins_rise ih _ _) _ _
theorem takes_find (k : Nat) : find (takesM (k + 1)) 34 ≠ none := by
  rw [takes_succ, find_ins, if_neg (by omega), find_ins, if_pos (by omega)]
  simp
theorem takes_len (k : Nat) : (takesM k).length ≤ k + 1 := by
  induction k with
  | zero => simp [takesM]
  | succ k ih =>
    have a := ins_le (m := ins ((34 : Nat) : Int) (markL (43 + k + 1)) (takesM k)) ((43 + k : Nat) : Int) zeros
    rw [takes_succ]
    cases k with
    | zero =>
      have b := ins_le (m := takesM 0) ((34 : Nat) : Int) (markL (43 + 0 + 1))
      have c : (takesM 0).length = 0 := rfl
      omega
    | succ k =>
      have b := ins_len (takes_rise (k + 1)) ((34 : Nat) : Int) (markL (43 + (k + 1) + 1))
      rw [if_neg (show find (takesM (k + 1)) ((34 : Nat) : Int) ≠ none from takes_find k)] at b
      omega
/-- Given back, i of them. -/
def givM (X : Secs2) (T : Nat) : Nat → List Wr
  | 0 => takesM T
  | i + 1 => ins 34 (K.setb (view X (givM X T i) 34) (43 + i) false) (givM X T i)
theorem giv_find {X : Secs2} {T : Nat} (hT : 1 ≤ T) (i : Nat) : find (givM X T i) 34 ≠ none := by
  cases i with
  | zero =>
    obtain ⟨k, rfl⟩ : ∃ k, T = k + 1 := ⟨T - 1, by omega⟩
    exact takes_find k
  | succ i => rw [givM, find_ins, if_pos rfl]; simp
theorem giv_bits {X : Secs2} (h : X[34]?.getD [] = markL 43) {T : Nat} (hT : T ≤ 19) (i : Nat) (hi : i ≤ T) : (view X (givM X T i) 34).length = 128 ∧ ∀ n, K.bt (view X (givM X T i) 34) n = (decide (n < 43) || decide (43 + i ≤ n ∧ n < 43 + T)) := by
  induction i with
  | zero =>
    have e : view X (givM X T 0) 34 = markL (43 + T) := takes_view h T
    rw [e]
    refine ⟨markL_len _, fun n => ?_⟩
    rw [bt_markL (by omega)]
    by_cases h1 : n < 43
    · simp [h1]; omega
    · simp [h1]; omega
  | succ i ih =>
    obtain ⟨h1, h2⟩ := ih (by omega)
    have e : view X (givM X T (i + 1)) 34 = K.setb (view X (givM X T i) 34) (43 + i) false := by
      rw [givM]
      exact (view_ins' X _ 34 _ 34).trans (if_pos rfl)
    rw [e]
    refine ⟨by rw [K.setb_length, h1], fun n => ?_⟩
    rw [K.bt_setb false (by rw [h1]; omega), h2]
    by_cases h3 : n = 43 + i
    · rw [if_pos h3]
      simp
      omega
    · rw [if_neg h3]
      congr 1
      rw [decide_eq_decide]
      omega
theorem giv_all {X : Secs2} (h : X[34]?.getD [] = markL 43) {T : Nat} (hT : T ≤ 19) : view X (givM X T T) 34 = markL 43 := by
  obtain ⟨h1, h2⟩ := giv_bits h hT T (Nat.le_refl _)
  refine K.list_ext (by rw [h1, markL_len]) fun n _ => ?_
  rw [h2, bt_markL (by omega)]
  by_cases h3 : n < 43
  · simp [h3]
  · simp [h3]
/-- The numbers taken. -/
def lk (k : Nat) : List Int := (List.range k).map fun i => ((43 + i : Nat) : Int)
theorem lk_len (k : Nat) : (lk k).length = k := by simp [lk]
theorem lk_succ (k : Nat) : lk (k + 1) = lk k ++ [((43 + k : Nat) : Int)] := by simp [lk, List.range_succ]
theorem lk_get {k i : Nat} (h : i < k) : (lk k)[i]?.getD 0 = ((43 + i : Nat) : Int) := by simp [lk, h]
theorem info3 : (Tryz.prog.info? 3).map (fun i => (i.zero, i.size, i.bytes)) = some (some (.int .i64 0), 1, 8) := by kernel_rfl
theorem appI_run {w : World} {base : Nat} {v : Value} {l : List Int} (x : Int) (hown : w.ownsRow base 3 1 v l.length (l.map encZ)) (hl : (l.length + 1) * 8 ≤ 140737488355328) (hbase : base ≤ w.heap.size) :
    ∃ v' w', (Builtin.append_ #[64, 64] 64 #[v, .slice (some ⟨w.heap.size, 0, none⟩) 1 1]).run Tryz.prog (w.alloc (.cells #[.int .i64 x] 3)) = .ok v' w' ∧ w'.ownsRow base 3 1 v' (l ++ [x]).length ((l ++ [x]).map encZ) ∧ Below base w w' := by
  obtain ⟨i0, hi, hz0, hz1, hz2⟩ := info_parts info3
  obtain ⟨v', w', hr, h2, h3, _⟩ := run_append_own (P := Tryz.prog) (w.alloc (.cells #[.int .i64 x] 3)) base 64 64 3 i0 _ 1 8 Tryz.underlying64 hi hz0 hz1 hz2 rfl (by decide) v l.length (l.map encZ) (hown.alloc _) ⟨w.heap.size, 0, none⟩ 1 1 [encZ x] (by simp)
    (fun j u hu => by
      match j, hu with
      | 0, hu =>
        simp only [List.getElem?_cons_zero, Option.some.injEq] at hu
        subst hu
        rw [Addr.add_lit, World.cell?_alloc_mark]
        rfl
      | j + 1, hu => simp at hu) (fun u hu => by simp only [List.mem_singleton] at hu; subst hu; rfl) (by unfold maxLen; omega) hl (by simp; omega)
  exact ⟨v', w', hr, by simpa using h2, ((Below.refl base w).alloc hbase _).grown h3 (by simp; omega) fun j hj => (hown.lt j hj).1⟩
/-- A store of which all lies below what is changed. -/
theorem Sto.base {w0 w w' : World} {p d N q base : Nat} {O : List Nat} {s : DS} {X : Secs2} {m : List Wr} (h : Sto w0 w p d O N s X q m) (hb : Below base w w') (hp : p < base) (hq : q < base) (hO : ∀ b ∈ O, b < base) (h0 : w0.heap.size ≤ base) : Sto w0 w' p d O N s X q m :=
  h.keep_ (fun b hb' => hb.block b (by rcases hb' with hb' | rfl | rfl; exact hO b hb'; exact hp; exact hq)) (hb.mono h0)
theorem row_chg {w w' : World} {base q : Nat} {v : Value} {n : Nat} {xs : List Value} (h : w.ownsRow base 3 1 v n xs) (hc : Chg [q] w w') (hq : q < base) : w'.ownsRow base 3 1 v n xs :=
  ownsRow_keep h fun b hb => hc.block b (h.lt b hb).2 (by have := (h.lt b hb).1; simp; omega)
theorem take_k {w0 w : World} {p d q k : Nat} {O : List Nat} {s : DS} {X : Secs2} (h : Sto w0 w p d O 100 s X q (takesM k)) (hm : X[34]?.getD [] = markL 43) (hk : k ≤ 18) :
    Calls Tryz.prog 21 #[.pointer (some ⟨p, 0, none⟩)] w (TakP w0 w p d O 100 s X q (takesM (k + 1)) (43 + k)) := by
  have hv := takes_view hm k
  have := take_yes h (n := 43 + k) (by rw [hv]; exact first_mark (by omega) (by omega) (by omega))
    ⟨h.mok, fun r hr => by
      rcases List.mem_cons.1 hr with rfl | hr
      · exact ⟨okn_of (N := 100) (by omega) (n := 34) (by omega) (by unfold inLog; omega), by simp, by rw [hv, K.setb_length, markL_len]⟩
      · rcases List.mem_cons.1 hr with rfl | hr
        · exact ⟨okn_of (N := 100) (by omega) (n := 43 + k) (by omega) (by unfold inLog; omega), by show ((43 + k : Nat) : Int) < ((100 : Nat) : Int); omega, zeros_len⟩
        · exact absurd hr (by simp), by
      have a := newk_le_len (takesM k) [(34, K.setb (view X (takesM k) 34) (43 + k) true), (((43 + k : Nat) : Int), zeros)]
      have b := takes_len k
      simp only [List.length_cons, List.length_nil] at a
      omega⟩
  rw [hv] at this
  exact this
theorem give_i {w0 w : World} {p d q T i : Nat} {O : List Nat} {s : DS} {X : Secs2} (h : Sto w0 w p d O 100 s X q (givM X T i)) (hT : T ≤ 19) (hi : i < T) :
    Calls Tryz.prog 26 #[.pointer (some ⟨p, 0, none⟩), .int .i64 ((43 + i : Nat) : Int)] w (Put1 w0 w p d O 100 s X q (givM X T (i + 1))) :=
  give_yes h (n := 43 + i) (by omega) (by omega) (.inl (giv_find (by omega) i))
end Go.Proofs.YthjjfncpongghaaGreat
