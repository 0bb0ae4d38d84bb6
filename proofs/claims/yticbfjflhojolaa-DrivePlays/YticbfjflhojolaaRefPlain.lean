/- Plain mathematics: the document's answer as a list of all that was written, and that it goes along with the drive. -/
import Derived.Test.YticbfjflhojolaaPlain
namespace Go.Proofs.Yticbfjflhojolaa
set_option linter.unusedVariables false

structure Done where
  at_ : Nat
  data : List UInt8
  sure : Bool
structure RD where
  list : List Done
  fuse : Int
  dead : Bool
def RD.pow (q : RD) : Bool := !(q.fuse == 0)
def RD.spark (q : RD) : RD := if q.fuse = 0 then { q with dead := true } else if 0 < q.fuse then { q with fuse := q.fuse - 1 } else q
def RD.add (q : RD) (n : Nat) (d : List UInt8) : RD := { q with list := q.list ++ [⟨n, d, false⟩] }
def RD.putGo : RD → List Wr → Int × RD
  | q, [] => (0, q)
  | q, w :: r => if q.pow then (q.spark.add w.1.toNat w.2).putGo r else (11, q.spark)
def RD.put (q : RD) (N : Nat) (l : List Wr) : Int × RD := if q.dead then (11, q) else if fitE N l = 0 then q.putGo l else (fitE N l, q)
def allSure (l : List Done) : List Done := l.map fun d => { d with sure := true }
def RD.flush (q : RD) : Int × RD := if q.dead then (11, q) else if q.pow then (0, { q.spark with list := allSure q.list }) else (11, q.spark)
def RD.fuse_ (q : RD) (n : Int) : RD := { q with fuse := if n < 0 then -1 else n }
/-- What of the list stays behind a restart; k: how many that were not sure have come by. -/
def stay (keep : List Int) : Nat → List Done → List Done
  | _, [] => []
  | k, d :: r => if d.sure then d :: stay keep k r else if kept keep k then { d with sure := true } :: stay keep (k + 1) r else stay keep (k + 1) r
def unsure (l : List Done) : Nat := (l.filter fun d => !d.sure).length
def RD.restart (q : RD) (keep : List Int) : RD := ⟨stay keep 0 q.list, -1, false⟩
/-- From the end on: the first that fits. -/
def fnd (n : Int) (sure : Bool) : List Done → List UInt8
  | [] => zeros
  | d :: r => if (d.at_ : Int) = n ∧ (d.sure = true ∨ sure = false) then d.data else fnd n sure r
def RD.find (q : RD) (n : Int) (sure : Bool) : List UInt8 := fnd n sure q.list.reverse
def newR : RD := ⟨[], -1, false⟩

def yes (p : Nat × List UInt8) : Done := ⟨p.1, p.2, true⟩
def no (p : Nat × List UInt8) : Done := ⟨p.1, p.2, false⟩
/-- The drive and the list go together. -/
structure Sim (N : Nat) (s : DS) (q : RD) : Prop where
  dead : q.dead = s.down
  fuse : s.down = false → q.fuse = if s.fused then s.left else -1
  neg : -1 ≤ q.fuse
  list : ∃ A : List (Nat × List UInt8), q.list = A.map yes ++ s.since.map no ∧ s.lasting = lay (List.replicate N zeros) A
  now : s.now = lay s.lasting s.since
section
variable {N : Nat} {s : DS} {q : RD}
theorem Sim.new (N : Nat) : Sim N (newS N) newR := ⟨rfl, fun _ => rfl, by simp [newR], ⟨[], rfl, rfl⟩, rfl⟩
theorem Sim.pow (h : Sim N s q) (hd : s.down = false) : q.pow = s.pow := by
  have := h.fuse hd
  unfold RD.pow DS.pow
  cases hf : s.fused with
  | true => rw [hf] at this; simp [this]
  | false => rw [hf] at this; simp [this]
theorem Sim.spend (h : Sim N s q) (hok : s.Ok N) (hd : s.down = false) : Sim N s.spend q.spark := by
  have hf := h.fuse hd
  cases hfu : s.fused with
  | true =>
    rw [hfu] at hf
    simp only [if_true] at hf
    have h0 := hok.fuse hfu hd
    have e1 : s.spend = { s with left := s.left - 1, down := s.left == 0 } := by simp [DS.spend, hfu]
    by_cases hz : s.left = 0
    · have e2 : q.spark = { q with dead := true } := by simp [RD.spark, hf, hz]
      rw [e1, e2]
      exact ⟨by simp [hz], fun hh => by simp [hz] at hh, h.neg, h.list, h.now⟩
    · have e2 : q.spark = { q with fuse := q.fuse - 1 } := by
        have : 0 < s.left := by omega
        simp [RD.spark, hf, hz, this]
      rw [e1, e2]
      refine ⟨?_, fun _ => ?_, ?_, h.list, h.now⟩
      · show q.dead = (s.left == 0); rw [h.dead, hd]; simp [hz]
      · show q.fuse - 1 = if s.fused then s.left - 1 else -1; rw [hfu, hf]; simp
      · show -1 ≤ q.fuse - 1; omega
  | false =>
    rw [hfu] at hf
    have hf' : q.fuse = -1 := by simpa using hf
    have e1 : s.spend = s := by simp [DS.spend, hfu]
    have e2 : q.spark = q := by simp [RD.spark, hf']
    rw [e1, e2]
    exact h
theorem Sim.add (h : Sim N s q) (n : Nat) (d : List UInt8) : Sim N (s.put1 n d) (q.add n d) := by
  obtain ⟨A, h1, h2⟩ := h.list
  refine ⟨h.dead, h.fuse, h.neg, ⟨A, ?_, h2⟩, ?_⟩
  · show q.list ++ [⟨n, d, false⟩] = _
    rw [h1]
    simp [DS.put1, no]
  · show s.now.set n d = lay s.lasting (s.since ++ [(n, d)])
    rw [lay_snoc, h.now]
theorem Sim.putGo : ∀ (l : List Wr) {s : DS} {q : RD}, Sim N s q → s.Ok N → s.down = false → (∀ x ∈ l, (∃ m : Nat, x.1 = m ∧ m < N) ∧ x.2.length = 128) → (q.putGo l).1 = (s.putGo l).1 ∧ Sim N (s.putGo l).2 (q.putGo l).2
  | [], s, q, h, _, _, _ => ⟨rfl, h⟩
  | x :: r, s, q, h, hok, hd, hx => by
    rw [RD.putGo, DS.putGo, h.pow hd]
    cases hp : s.pow with
    | true =>
      obtain ⟨⟨m, hm, hmN⟩, hl⟩ := hx x (by simp)
      have hm' : x.1.toNat = m := by omega
      simp only [if_true]
      refine Sim.putGo r ((h.spend hok hd).add _ _) ?_ (spend_down hp hd) (fun y hy => hx y (by simp [hy]))
      exact (hok.spend hd).put1 (by omega) hl
    | false => exact ⟨rfl, h.spend hok hd⟩
theorem fit_all {ws : List Wr} (h : fitE N ws = 0) : ∀ x ∈ ws, (∃ m : Nat, x.1 = m ∧ m < N) ∧ x.2.length = 128 := by
  unfold fitE at h
  split at h
  · rename_i h1
    split at h
    · rename_i h2
      intro x hx
      have g1 := List.all_eq_true.1 h1 x hx
      have g2 := List.all_eq_true.1 h2 x hx
      simp only [inR, Bool.and_eq_true, decide_eq_true_eq] at g1
      exact ⟨⟨x.1.toNat, by omega, by omega⟩, by simpa using g2⟩
    · cases h
  · cases h
theorem Sim.put (h : Sim N s q) (hok : s.Ok N) (l : List Wr) : (q.put N l).1 = (s.put N l).1 ∧ Sim N (s.put N l).2 (q.put N l).2 := by
  unfold RD.put DS.put
  rw [h.dead]
  cases hd : s.down with
  | true => exact ⟨rfl, h⟩
  | false =>
    by_cases hf : fitE N l = 0
    · simp only [hf, Bool.false_eq_true, if_false, if_true]
      exact h.putGo l hok hd (fit_all hf)
    · simp only [hf, Bool.false_eq_true, if_false]
      exact ⟨trivial, h⟩
theorem lay_app (l : List (List UInt8)) (a b : List (Nat × List UInt8)) : lay l (a ++ b) = lay (lay l a) b := by simp [lay]
theorem sure_yes (A : List (Nat × List UInt8)) : allSure (A.map yes) = A.map yes := by simp [allSure, yes]
theorem sure_no (A : List (Nat × List UInt8)) : allSure (A.map no) = A.map yes := by simp [allSure, no, yes]
theorem spend_las' (s : DS) : s.spend.lasting = s.lasting ∧ s.spend.since = s.since ∧ s.spend.now = s.now := by unfold DS.spend; split <;> exact ⟨rfl, rfl, rfl⟩
theorem spark_list (q : RD) : q.spark.list = q.list := by unfold RD.spark; split; rfl; split <;> rfl
theorem Sim.flush (h : Sim N s q) (hok : s.Ok N) : q.flush.1 = s.flush.1 ∧ Sim N s.flush.2 q.flush.2 := by
  unfold RD.flush DS.flush
  rw [h.dead]
  cases hd : s.down with
  | true => exact ⟨rfl, h⟩
  | false =>
    rw [h.pow hd]
    have hs := h.spend hok hd
    cases hp : s.pow with
    | false => exact ⟨rfl, hs⟩
    | true =>
      simp only [Bool.false_eq_true, if_false, if_true]
      obtain ⟨A, h1, h2⟩ := h.list
      refine ⟨trivial, hs.dead, hs.fuse, hs.neg, ⟨A ++ s.since, ?_, ?_⟩, ?_⟩
      · show allSure q.list = (A ++ s.since).map yes ++ ([] : List (Nat × List UInt8)).map no
        rw [h1]
        have : ∀ a b : List Done, allSure (a ++ b) = allSure a ++ allSure b := fun a b => by simp [allSure]
        rw [this, sure_yes, sure_no]
        simp
      · show lay s.lasting s.since = _
        rw [lay_app, ← h2]
      · show s.spend.now = lay (lay s.lasting s.since) []
        rw [(spend_las' s).2.2, h.now]
        rfl
theorem Sim.fuse' (h : Sim N s q) (n : Int) : Sim N (s.fuse n) (q.fuse_ n) := by
  refine ⟨h.dead, fun _ => ?_, ?_, h.list, h.now⟩
  · show (if n < 0 then -1 else n) = if (decide (0 ≤ n)) = true then n else -1
    by_cases hn : n < 0
    · rw [if_pos hn, if_neg (by simp; omega)]
    · rw [if_neg hn, if_pos (by simp; omega)]
  · show -1 ≤ if n < 0 then -1 else n
    split <;> omega
theorem stay_yes (keep : List Int) (k : Nat) (B : List Done) : ∀ A : List (Nat × List UInt8), stay keep k (A.map yes ++ B) = A.map yes ++ stay keep k B
  | [] => rfl
  | a :: r => by rw [List.map_cons, List.cons_append, stay, if_pos (show (yes a).sure = true from rfl), stay_yes keep k B r]; rfl
theorem stay_no (keep : List Int) : ∀ (U : List (Nat × List UInt8)) (k : Nat), stay keep k (U.map no) = (keeps keep k U).map yes
  | [], _ => rfl
  | p :: r, k => by
    rw [List.map_cons, stay, keeps, if_neg (by simp [no])]
    cases hk : kept keep k with
    | true => simp only [if_true, List.map_cons]; rw [stay_no keep r (k + 1)]; rfl
    | false => simp only [Bool.false_eq_true, if_false]; exact stay_no keep r (k + 1)
theorem Sim.restart (h : Sim N s q) (keep : List Int) : Sim N (s.restart keep) (q.restart keep) := by
  obtain ⟨A, h1, h2⟩ := h.list
  refine ⟨rfl, fun _ => rfl, by simp [RD.restart], ⟨A ++ keeps keep 0 s.since, ?_, ?_⟩, rfl⟩
  · show stay keep 0 q.list = (A ++ keeps keep 0 s.since).map yes ++ ([] : List (Nat × List UInt8)).map no
    rw [h1, stay_yes, stay_no]
    simp
  · show lay s.lasting (keeps keep 0 s.since) = _
    rw [lay_app, ← h2]
def strip (d : Done) : Nat × List UInt8 := (d.at_, d.data)
theorem fnd_lay {n : Nat} (hn : n < N) : ∀ R : List Done, some (fnd (n : Int) false R) = (lay (List.replicate N zeros) (R.reverse.map strip))[n]?
  | [] => by
    show some zeros = (List.replicate N zeros)[n]?
    rw [List.getElem?_replicate, if_pos hn]
  | d :: r => by
    rw [List.reverse_cons, List.map_append, List.map_singleton, lay_snoc, List.getElem?_set, lay_len, List.length_replicate]
    show some (if (d.at_ : Int) = (n : Int) ∧ (d.sure = true ∨ false = false) then d.data else fnd (n : Int) false r) = if d.at_ = n then if d.at_ < N then some d.data else none else _
    by_cases he : d.at_ = n
    · rw [if_pos ⟨by omega, .inr rfl⟩, if_pos he, if_pos (by omega)]
    · rw [if_neg (fun h => he (by omega)), if_neg he]
      exact fnd_lay hn r
theorem fnd_sure {n : Int} : ∀ R : List Done, fnd n true R = fnd n false (R.filter fun d => d.sure)
  | [] => rfl
  | d :: r => by
    cases hs : d.sure with
    | true =>
      rw [List.filter_cons_of_pos (by simpa using hs)]
      unfold fnd
      by_cases he : (d.at_ : Int) = n
      · rw [if_pos ⟨he, .inl hs⟩, if_pos ⟨he, .inl hs⟩]
      · rw [if_neg (fun h => he h.1), if_neg (fun h => he h.1)]
        exact fnd_sure r
    | false =>
      rw [List.filter_cons_of_neg (by simp [hs]), ← fnd_sure r]
      conv => lhs; unfold fnd
      rw [if_neg (fun h => by simp [hs] at h)]
theorem Sim.now_find (h : Sim N s q) {n : Nat} (hn : n < N) : s.now[n]? = some (q.find n false) := by
  obtain ⟨A, h1, h2⟩ := h.list
  unfold RD.find
  rw [fnd_lay hn, List.reverse_reverse, h.now, h2, ← lay_app, h1]
  congr 2
  simp [yes, no, strip, Function.comp_def]
theorem Sim.las_find (h : Sim N s q) {n : Nat} (hn : n < N) : s.lasting[n]? = some (q.find n true) := by
  obtain ⟨A, h1, h2⟩ := h.list
  unfold RD.find
  rw [fnd_sure, List.filter_reverse, fnd_lay hn, List.reverse_reverse, h2, h1]
  congr 2
  rw [List.filter_append]
  have e1 : (A.map yes).filter (fun d => d.sure) = A.map yes := List.filter_eq_self.2 (fun d hd => by simp [yes] at hd; obtain ⟨a, b, _, rfl⟩ := hd; rfl)
  have e2 : (s.since.map no).filter (fun d => d.sure) = [] := List.filter_eq_nil_iff.2 (fun d hd => by simp [no] at hd; obtain ⟨a, b, _, rfl⟩ := hd; simp)
  rw [e1, e2]
  simp [yes, strip, Function.comp_def]
end
end Go.Proofs.Yticbfjflhojolaa
