/- '==' on nodes, handles and stats. -/
import Derived.Test.YtijphembfohfnaaEq
namespace Go.Proofs.Ytijphembfohfnaa
open Go.RowKit
set_option linter.unusedVariables false
theorem eq23 (d : Nat) (a b : List Int) (ha : a.length = 4) (hb : b.length = 4) (w : World) : (Op.equalIn (d + 2) 23 (.agg (a.map (Value.int .i64)).toArray) (.agg (b.map (Value.int .i64)).toArray)).run Try.prog w = .ok (decide (a = b)) w :=
  eqArr (P := Try.prog) d Try.underlying23 Try.underlying3 sz3 ag3 a b ha hb w
theorem part3 {xs : Array Value} {i : Nat} {v : Value} (h : xs[i]? = some v) (w : World) : (part 3 xs i).run Try.prog w = .ok v w := by
  simp [part, h]
theorem part23 (x : Nd) (w : World) : (part 23 (nc x).toArray 5).run Try.prog w = .ok (.agg ([x.d0, x.d1, x.d2, x.d3].map (Value.int .i64)).toArray) w := by kernel_rfl
theorem und25 : Try.prog.underlying 25 = some (.struct (Try.prog.fieldsOf 25)) := by kernel_rfl
theorem und32 : Try.prog.underlying 32 = some (.struct (Try.prog.fieldsOf 32)) := by kernel_rfl
theorem und30 : Try.prog.underlying 30 = some (.struct (Try.prog.fieldsOf 30)) := by kernel_rfl
theorem stood25 : Try.prog.stoodInHeld 25 = false := by kernel_rfl
theorem stood32 : Try.prog.stoodInHeld 32 = false := by kernel_rfl
theorem stood30 : Try.prog.stoodInHeld 30 = false := by kernel_rfl
/-- A struct's fields compared, by type and offset alone. -/
def eqF (d : Nat) (xs ys : Array Value) : List (TypeId × Nat) → Sem Bool
  | [] => pure true
  | f :: fs => do
    let a ← part f.1 xs f.2
    let b ← part f.1 ys f.2
    let r ← Op.equalIn d f.1 a b
    if (!r) = true then pure false else eqF d xs ys fs
theorem eqFields_eq (d : Nat) (xs ys : Array Value) : ∀ fs : List Field, (fs.all fun f => decide (f.name ≠ "_")) = true → Op.eqFields d xs ys fs = eqF d xs ys (fs.map fun f => (f.type, f.offset))
  | [], _ => rfl
  | f :: fs, h => by
    simp only [List.all_cons, Bool.and_eq_true, decide_eq_true_eq] at h
    rw [Op.eqFields, if_pos h.1, List.map_cons, eqF, eqFields_eq d xs ys fs h.2]
theorem eqF_cons {d : Nat} {xs ys : Array Value} {t : TypeId} {o : Nat} {fs : List (TypeId × Nat)} {a b : Value} {r : Bool} {w : World} (hx : (part t xs o).run Try.prog w = .ok a w) (hy : (part t ys o).run Try.prog w = .ok b w) (he : (Op.equalIn d t a b).run Try.prog w = .ok r w) :
    (eqF d xs ys ((t, o) :: fs)).run Try.prog w = if r = true then (eqF d xs ys fs).run Try.prog w else .ok false w := by
  rw [eqF]
  simp only [Sem.run_bind, hx, hy, he, Result.andThen_ok]
  cases r <;> simp
theorem eqF_nil {d : Nat} {xs ys : Array Value} {w : World} : (eqF d xs ys []).run Try.prog w = .ok true w := by simp [eqF]
theorem eqI (d : Nat) (a b : Int) (w : World) : (Op.equalIn (d + 1) 3 (.int .i64 a) (.int .i64 b)).run Try.prog w = .ok (a == b) w := run_equalIn_int w d 3 .i64 .i64 a b Try.underlying3
theorem eqFI {d : Nat} {xs ys : Array Value} {o : Nat} {fs : List (TypeId × Nat)} (a b : Int) {w : World} (hx : xs[o]? = some (.int .i64 a)) (hy : ys[o]? = some (.int .i64 b)) :
    (eqF (d + 1) xs ys ((3, o) :: fs)).run Try.prog w = if a = b then (eqF (d + 1) xs ys fs).run Try.prog w else .ok false w := by
  rw [eqF_cons (part3 hx w) (part3 hy w) (eqI d a b w)]
  simp
theorem ok25 : ((Try.prog.fieldsOf 25).toList.all fun f => decide (f.name ≠ "_")) = true := by kernel_rfl
theorem ok32 : ((Try.prog.fieldsOf 32).toList.all fun f => decide (f.name ≠ "_")) = true := by kernel_rfl
theorem ok30 : ((Try.prog.fieldsOf 30).toList.all fun f => decide (f.name ≠ "_")) = true := by kernel_rfl
theorem fields25 : (Try.prog.fieldsOf 25).toList.map (fun f => (f.type, f.offset)) = [(3, 0), (3, 1), (3, 2), (3, 3), (3, 4), (23, 5), (3, 9), (3, 10)] := by kernel_rfl
theorem fields32 : (Try.prog.fieldsOf 32).toList.map (fun f => (f.type, f.offset)) = [(30, 0), (3, 2), (3, 3), (3, 4), (3, 5)] := by kernel_rfl
theorem fields30 : (Try.prog.fieldsOf 30).toList.map (fun f => (f.type, f.offset)) = [(3, 0), (3, 1)] := by kernel_rfl
theorem eq25 (x y : Nd) (w : World) : (Op.equalIn 10000 25 (.agg (nc x).toArray) (.agg (nc y).toArray)).run Try.prog w = .ok (decide (x = y)) w := by
  rw [show (10000 : Nat) = 9999 + 1 from rfl, run_equalIn_agg w 9999 25 _ _ und25 stood25, eqFields_eq _ _ _ _ ok25, fields25]
  rw [eqFI x.k y.k rfl rfl, eqFI x.l y.l rfl rfl, eqFI x.g y.g rfl rfl, eqFI x.s y.s rfl rfl, eqFI x.c y.c rfl rfl, eqF_cons (part23 x w) (part23 y w) (eq23 9997 _ _ rfl rfl w), eqFI x.o y.o rfl rfl, eqFI x.t y.t rfl rfl, eqF_nil]
  cases x; cases y
  simp only [decide_eq_true_eq, List.cons.injEq, and_true, Nd.mk.injEq]
  repeat' split
  all_goals congr 1
  all_goals first | (symm; rw [decide_eq_true_eq]; simp_all; done) | (symm; rw [decide_eq_false_iff_not]; rintro ⟨h0, h1, h2, h3, h4, h5, h6, h7, h8, h9, h10⟩; simp_all; done)
/-- The cells of a stat. -/
def sc (n g k l s c : Int) : List Value := [iv n, iv g, iv k, iv l, iv s, iv c]
theorem part30 (n g k l s c : Int) (w : World) : (part 30 (sc n g k l s c).toArray 0).run Try.prog w = .ok (.agg #[.int .i64 n, .int .i64 g]) w := by kernel_rfl
theorem eq30 (d : Nat) (a b a' b' : Int) (w : World) : (Op.equalIn (d + 2) 30 (.agg #[.int .i64 a, .int .i64 b]) (.agg #[.int .i64 a', .int .i64 b'])).run Try.prog w = .ok (decide (a = a' ∧ b = b')) w := by
  rw [run_equalIn_agg w (d + 1) 30 _ _ und30 stood30, eqFields_eq _ _ _ _ ok30, fields30]
  rw [eqFI a a' rfl rfl, eqFI b b' rfl rfl, eqF_nil]
  repeat' split
  all_goals congr 1
  all_goals simp_all
theorem eq32 (n g k l s c : Int) (w : World) : (Op.equalIn 10000 32 (.agg (sc n g k l s c).toArray) (.agg (sc n g k l s c).toArray)).run Try.prog w = .ok true w := by
  rw [show (10000 : Nat) = 9999 + 1 from rfl, run_equalIn_agg w 9999 32 _ _ und32 stood32, eqFields_eq _ _ _ _ ok32, fields32]
  rw [eqF_cons (part30 n g k l s c w) (part30 n g k l s c w) (eq30 9997 _ _ _ _ w), eqFI k k rfl rfl, eqFI l l rfl rfl, eqFI s s rfl rfl, eqFI c c rfl rfl, eqF_nil]
  simp
end Go.Proofs.Ytijphembfohfnaa
