/- A step, what it makes of a drive; a slice of steps in memory; play, walked. -/
import Derived.Test.YticbfjflhojolaaAwake
namespace Go.Proofs.Yticbfjflhojolaa
open Go.RowKit
set_option linter.unusedVariables false

structure SStep where
  what : Int
  n : Int
  list : List Wr
  keep : List Int
def DS.step (s : DS) (N : Nat) (x : SStep) : Int × DS := if x.what = 0 then s.put N x.list else if x.what = 1 then s.flush else if x.what = 2 then (0, s.fuse x.n) else if x.what = 3 then (0, s.restart x.keep) else (0, s)
/-- The value of a step. -/
structure StepV (w : World) (M : Nat → Prop) (x : SStep) (A1 : Option Addr) (n1 c1 : Nat) (A2 : Option Addr) (n2 c2 : Nat) : Prop where
  lo : -9223372036854775808 ≤ x.n
  hi : x.n ≤ 9223372036854775807
  wrs : Wrs w M A1 n1 c1 x.list
  ints : Ints w M A2 n2 c2 x.keep
def StepAt (w : World) (M : Nat → Prop) (b o : Nat) (x : SStep) : Prop := ∃ A1 n1 c1 A2 n2 c2, w.cell? ⟨b, o, none⟩ = some (.int .i64 x.what) ∧ w.cell? ⟨b, o + 1, none⟩ = some (.int .i64 x.n) ∧ w.cell? ⟨b, o + 2, none⟩ = some (.slice A1 n1 c1) ∧ w.cell? ⟨b, o + 3, none⟩ = some (.slice A2 n2 c2) ∧ StepV w M x A1 n1 c1 A2 n2 c2
structure Stps (w : World) (M : Nat → Prop) (A : Option Addr) (n c : Nat) (l : List SStep) : Prop where
  len : l.length = n
  cap : n ≤ c
  lim : c ≤ maxLen
  at_ : 0 < n → ∃ b off, A = some ⟨b, off, none⟩ ∧ M b ∧ ∀ j x, l[j]? = some x → StepAt w M b (off + j * 4) x
section
variable {w w' : World} {M M' : Nat → Prop} {A : Option Addr} {n c : Nat} {l : List SStep} {x : SStep}
theorem Ints.more {l : List Int} (h : Ints w M A n c l) (hk : ∀ b, M b → M' b) : Ints w M' A n c l :=
  ⟨h.len, h.cap, h.lim, fun hn => by obtain ⟨b, off, e, hb, hc⟩ := h.at_ hn; exact ⟨b, off, e, hk b hb, hc⟩⟩
theorem StepV.keep {A1 A2 : Option Addr} {n1 c1 n2 c2 : Nat} (h : StepV w M x A1 n1 c1 A2 n2 c2) (hk : ∀ b, M b → w'.heap[b]? = w.heap[b]?) : StepV w' M x A1 n1 c1 A2 n2 c2 :=
  ⟨h.lo, h.hi, h.wrs.keep hk, h.ints.keep hk⟩
theorem StepAt.keep {b o : Nat} (h : StepAt w M b o x) (hb : M b) (hk : ∀ b, M b → w'.heap[b]? = w.heap[b]?) : StepAt w' M b o x := by
  obtain ⟨A1, n1, c1, A2, n2, c2, h0, h1, h2, h3, h4⟩ := h
  have e : ∀ j, w'.cell? ⟨b, j, none⟩ = w.cell? ⟨b, j, none⟩ := fun j => World.cell?_of_block (a := ⟨b, j, none⟩) (hk b hb)
  exact ⟨A1, n1, c1, A2, n2, c2, (e _).trans h0, (e _).trans h1, (e _).trans h2, (e _).trans h3, h4.keep hk⟩
theorem Stps.get (h : Stps w M A n c l) {j : Nat} (hj : l[j]? = some x) : ∃ b off, A = some ⟨b, off, none⟩ ∧ M b ∧ StepAt w M b (off + j * 4) x := by
  obtain ⟨b, off, e, hb, hc⟩ := h.at_ (by rw [← h.len]; have := (List.getElem?_eq_some_iff.1 hj).1; omega)
  exact ⟨b, off, e, hb, hc j x hj⟩
end
/-- The value of a step, as it is handed on. -/
def sv (x : SStep) (A1 : Option Addr) (n1 c1 : Nat) (A2 : Option Addr) (n2 c2 : Nat) : Value := .agg #[.int .i64 x.what, .int .i64 x.n, .slice A1 n1 c1, .slice A2 n2 c2]
theorem Did.of_alloc {w w' : World} {d : Nat} {O : List Nat} {N : Nat} {s' : DS} {o : Obj} (h : Did (w.alloc o) d O N s' w') : Did w d O N s' w' := by
  obtain ⟨O', h1, h2, h3⟩ := h
  refine ⟨O', h1, (Chg.of_below ((Below.refl w.heap.size w).alloc (Nat.le_refl _) o)).tr h2, fun b hb => ?_⟩
  rcases h3 b hb with g | g
  · exact .inl g
  · right; simp at g; omega
set_option maxHeartbeats 4000000 in
theorem play_any {w : World} {d : Nat} {O : List Nat} {N : Nat} {s : DS} {M : Nat → Prop} {x : SStep} {A1 A2 : Option Addr} {n1 c1 n2 c2 : Nat} (h : Drv w d O N s) (hv : StepV w M x A1 n1 c1 A2 n2 c2)
    (hM : ∀ b, M b → b < w.heap.size ∧ b ∉ O) (hb : (s.since.length + x.list.length) * 136 ≤ 140737488355328) :
    Calls Try.prog 25 #[.pointer (some ⟨d, 0, none⟩), .agg #[.int .i64 x.what, .int .i64 x.n, .slice A1 n1 c1, .slice A2 n2 c2]] w fun e w' => e = .returned (.int .i64 (s.step N x).1) ∧ Did w d O N (s.step N x).2 w' := by
  obtain ⟨what, n, list, keep⟩ := x
  have hal : ∀ o, Below w.heap.size w (w.alloc o) := fun o => (Below.refl _ _).alloc (Nat.le_refl _) o
  have HD : Hid (∀ o, Drv (w.alloc o) d O N s) := fun o => h.keep fun b hb => (hal o).block b (h.lt b hb)
  have HV : Hid (∀ o, StepV (w.alloc o) M ⟨what, n, list, keep⟩ A1 n1 c1 A2 n2 c2) := fun o => hv.keep fun b hb => (hal o).block b (hM b hb).1
  have HM : Hid (∀ o, ∀ b, M b → b < (w.alloc o).heap.size ∧ b ∉ O) := fun o b hb => ⟨by simp; have := (hM b hb).1; omega, (hM b hb).2⟩
  have HB := Lib.hid hb
  have HLEN := Lib.hid hv.wrs.len
  clear hal h hv hM hb
  unfold DS.step
  by_cases e0 : what = 0
  · subst e0
    simp only [if_true]
    go_enter Try.func25, Try.ntmps25
    go_wp2_with fail
    refine (put_any (HD.out _) (HV.out _).wrs (HM.out _) (by have := HB.out; rw [← HLEN.out]; exact this)).mono ?_
    rintro e w' ⟨rfl, hd⟩
    have HDD := Lib.hid hd.of_alloc
    clear hd
    simp only at HDD ⊢
    go_wp2_with fail
    go_ret
    exact ⟨rfl, HDD.out⟩
  · have t0 : (what == 0) = false := by simpa using e0
    by_cases e1 : what = 1
    · subst e1
      simp only [show ¬ ((1 : Int) = 0) by omega, if_false, if_true]
      go_enter Try.func25, Try.ntmps25
      go_wp2_with fail
      refine (flush_any (HD.out _)).mono ?_
      rintro e w' ⟨rfl, hd⟩
      have HDD := Lib.hid hd.of_alloc
      clear hd
      go_wp2_with fail
      go_ret
      exact ⟨rfl, HDD.out⟩
    · have t1 : (what == 1) = false := by simpa using e1
      by_cases e2 : what = 2
      · subst e2
        simp only [show ¬ ((2 : Int) = 0) by omega, show ¬ ((2 : Int) = 1) by omega, if_false, if_true]
        go_enter Try.func25, Try.ntmps25
        go_wp2_with fail
        refine (fuseD n (HD.out _) (HV.out (.cells #[] 0)).lo (HV.out (.cells #[] 0)).hi).mono ?_
        rintro e w' ⟨rfl, hd⟩
        have HDD := Lib.hid hd.of_alloc
        clear hd
        go_wp2_with fail
        go_ret
        exact ⟨rfl, HDD.out⟩
      · have t2 : (what == 2) = false := by simpa using e2
        by_cases e3 : what = 3
        · subst e3
          simp only [show ¬ ((3 : Int) = 0) by omega, show ¬ ((3 : Int) = 1) by omega, show ¬ ((3 : Int) = 2) by omega, if_false, if_true]
          go_enter Try.func25, Try.ntmps25
          go_wp2_with fail
          refine (restart_any (HD.out _) (HV.out _).ints (HM.out _)).mono ?_
          rintro e w' ⟨rfl, hd⟩
          have HDD := Lib.hid hd.of_alloc
          clear hd
          go_wp2_with fail
          go_ret
          exact ⟨rfl, HDD.out⟩
        · have t3 : (what == 3) = false := by simpa using e3
          simp only [e0, e1, e2, e3, if_false]
          go_enter Try.func25, Try.ntmps25
          go_wp2_with fail
          go_ret
          exact ⟨rfl, Did.of_alloc ⟨O, HD.out _, Chg.refl _ _, fun b hb => .inl hb⟩⟩
end Go.Proofs.Yticbfjflhojolaa
