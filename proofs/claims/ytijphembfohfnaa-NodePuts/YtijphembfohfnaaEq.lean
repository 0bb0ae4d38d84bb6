/- '==' on arrays of numbers, on nodes, handles and stats. -/
import Derived.Test.YtijphembfohfnaaMem
import Derived.Laws.StructEq
namespace Go.Proofs.Ytijphembfohfnaa
open Go.RowKit
set_option linter.unusedVariables false
section
variable {P : Program}
/-- An array's elements compared, one by one. -/
def eqAt (d : Nat) (elem : TypeId) (xs ys : Array Value) : List Nat → Sem Bool
  | [] => pure true
  | i :: is => do
    let a ← part elem xs (i * 1)
    let b ← part elem ys (i * 1)
    let r ← Op.equalIn d elem a b
    if (!r) = true then pure false else eqAt d elem xs ys is
theorem run_equalIn_array (d : Nat) {t elem : TypeId} {n : Nat} (xs ys : Array Value) (hu : P.underlying t = some (.array n elem)) (hs : ∀ w, (sizeOf elem).run P w = .ok 1 w) (w : World) :
    (Op.equalIn (d + 1) t (.agg xs) (.agg ys)).run P w = (eqAt d elem xs ys (List.range' 0 n)).run P w := by
  simp only [Op.equalIn, Sem.run_bind, run_underlying hu, Result.andThen_ok, hs, Std.Legacy.Range.forIn_eq_forIn_range', Std.Legacy.Range.size, Nat.sub_zero, Nat.add_sub_cancel, Nat.div_one]
  generalize List.range' 0 n = l
  induction l generalizing w with
  | nil => simp [eqAt]
  | cons i l ih =>
    simp only [List.forIn_cons, eqAt, Sem.run_bind]
    generalize (part elem xs (i * 1)).run P w = r1
    cases r1 with
    | ok a w1 =>
      simp only [Result.andThen_ok]
      generalize (part elem ys (i * 1)).run P w1 = r2
      cases r2 with
      | ok b w2 =>
        simp only [Result.andThen_ok]
        generalize (Op.equalIn d elem a b).run P w2 = r3
        cases r3 with
        | ok r w3 =>
          cases r
          · simp only [Result.andThen_ok, Bool.not_false, if_true, Sem.run_pure]
          · simp only [Result.andThen_ok, Bool.not_true, Bool.false_eq_true, if_false, Sem.run_pure]
            exact ih w3
        | halt x w3 => simp [Result.andThen]
      | halt x w2 => simp [Result.andThen]
    | halt x w1 => simp [Result.andThen]
theorem run_part_one {elem : TypeId} (ha : ∀ w, (isAgg elem).run P w = .ok false w) {xs : Array Value} {i : Nat} {v : Value} (h : xs[i]? = some v) (w : World) : (part elem xs (i * 1)).run P w = .ok v w := by
  simp [part, ha, h]
theorem eqArr (d : Nat) {t elem : TypeId} {k : IntKind} {n : Nat} (hu : P.underlying t = some (.array n elem)) (he : P.underlying elem = some (.int k)) (hs : ∀ w, (sizeOf elem).run P w = .ok 1 w) (ha : ∀ w, (isAgg elem).run P w = .ok false w)
    (xs ys : List Int) (hx : xs.length = n) (hy : ys.length = n) (w : World) :
    (Op.equalIn (d + 2) t (.agg (xs.map (Value.int k)).toArray) (.agg (ys.map (Value.int k)).toArray)).run P w = .ok (decide (xs = ys)) w := by
  rw [run_equalIn_array (d + 1) _ _ hu hs]
  have key : ∀ l : List Nat, (∀ i ∈ l, i < n) → (eqAt (d + 1) elem (xs.map (Value.int k)).toArray (ys.map (Value.int k)).toArray l).run P w = .ok (decide (∀ i ∈ l, xs[i]? = ys[i]?)) w := by
    intro l
    induction l with
    | nil => intro _; simp [eqAt]
    | cons i l ih =>
      intro h
      have hi := h i (by simp)
      have h1 : (xs.map (Value.int k)).toArray[i]? = some (.int k xs[i]) := by simp [hx, hi]
      have h2 : (ys.map (Value.int k)).toArray[i]? = some (.int k ys[i]) := by simp [hy, hi]
      simp only [eqAt, Sem.run_bind, run_part_one ha h1, run_part_one ha h2, Result.andThen_ok, run_equalIn_int w d elem k k _ _ he]
      by_cases e : xs[i] = ys[i]
      · have := ih fun j hj => h j (by simp [hj])
        simp only [e, beq_self_eq_true, Bool.not_true, Bool.false_eq_true, if_false, this]
        congr 1
        rw [decide_eq_decide]
        simp [hx, hy, hi, e]
      · have e' : (xs[i] == ys[i]) = false := by rw [beq_eq_false_iff_ne]; exact e
        simp only [e', Bool.not_false, if_true, Sem.run_pure]
        congr 1
        symm
        rw [decide_eq_false_iff_not]
        intro hall
        have := hall i (by simp)
        simp [hx, hy, hi] at this
        exact e this
  rw [key _ (by intro i hi; simp at hi; exact hi)]
  congr 1
  rw [decide_eq_decide]
  constructor
  · intro h
    apply List.ext_getElem?
    intro i
    by_cases hi : i < n
    · exact h i (by simp [hi])
    · rw [List.getElem?_eq_none (by omega), List.getElem?_eq_none (by omega)]
  · rintro rfl i _; rfl
end
theorem ag3 (w : World) : (isAgg 3).run Try.prog w = .ok false w := Try.isAgg3 w
theorem ag5 (w : World) : (isAgg 5).run Try.prog w = .ok false w := Try.isAgg5 w
theorem sz3 (w : World) : (sizeOf 3).run Try.prog w = .ok 1 w := Try.sizeOf3 w
theorem sz5 (w : World) : (sizeOf 5).run Try.prog w = .ok 1 w := Try.sizeOf5 w
/-- Pointers held against none. -/
theorem eq49 (x : Nd) (w : World) : (Op.equalIn 10000 49 (.agg (pc x).toArray) (.agg #[.int .i64 0, .int .i64 0, .int .i64 0, .int .i64 0, .int .i64 0, .int .i64 0])).run Try.prog w = .ok x.none_ w := by
  have h := eqArr (P := Try.prog) 9998 Try.underlying49 Try.underlying3 sz3 ag3 [x.d0, x.d1, x.d2, x.d3, x.o, x.t] [0, 0, 0, 0, 0, 0] rfl rfl w
  refine (show _ = _ from h).trans ?_
  congr 1
  unfold Nd.none_
  rw [decide_eq_decide]
  simp
/-- 32 bytes held against 32. -/
theorem eq44 (a b : List UInt8) (ha : a.length = 32) (hb : b.length = 32) (w : World) : (Op.equalIn 10000 44 (.agg (a.map F.bv).toArray) (.agg (b.map F.bv).toArray)).run Try.prog w = .ok (decide (a = b)) w := by
  have h := eqArr (P := Try.prog) 9998 Try.underlying44 Try.underlying5 sz5 ag5 (a.map fun x => (x.toNat : Int)) (b.map fun x => (x.toNat : Int)) (by simp [ha]) (by simp [hb]) w
  rw [List.map_map, List.map_map] at h
  refine (show _ = _ from h).trans ?_
  congr 1
  rw [decide_eq_decide]
  constructor
  · intro h
    exact List.map_inj_right (fun x y e => UInt8.toNat_inj.1 (by omega)) |>.1 h
  · rintro rfl; rfl
end Go.Proofs.Ytijphembfohfnaa
