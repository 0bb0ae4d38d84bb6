/- Plain mathematics: a drive's state, and what each call makes of it. No program. -/
import Derived.Lib.Hide
namespace Go.Proofs.Ytlhkkelpombbiaa
set_option linter.unusedVariables false

/-- A write: where, and what. -/
abbrev Wr := Int × List UInt8
/-- A drive, as the program keeps it. -/
structure DS where
  now : List (List UInt8)
  lasting : List (List UInt8)
  since : List (Nat × List UInt8)
  fused : Bool
  left : Int
  down : Bool
/-- What a drive's state always is. -/
structure DS.Ok (s : DS) (N : Nat) : Prop where
  now : s.now.length = N
  lasting : s.lasting.length = N
  since : ∀ p ∈ s.since, p.1 < N ∧ p.2.length = 128
  lo : -9223372036854775808 ≤ s.left
  hi : s.left ≤ 9223372036854775807
  fuse : s.fused = true → s.down = false → 0 ≤ s.left

def zeros : List UInt8 := List.replicate 128 0
def newS (N : Nat) : DS := ⟨List.replicate N zeros, List.replicate N zeros, [], false, 0, false⟩
/-- Is there power for one thing more? -/
def DS.pow (s : DS) : Bool := !s.fused || !(s.left == 0)
def DS.spend (s : DS) : DS := if s.fused then { s with left := s.left - 1, down := s.left == 0 } else s
def DS.put1 (s : DS) (n : Nat) (d : List UInt8) : DS := { s with now := s.now.set n d, since := s.since ++ [(n, d)] }
/-- The writes, one behind the other. -/
def DS.putGo : DS → List Wr → Int × DS
  | s, [] => (0, s)
  | s, w :: r => if s.pow then (s.spend.put1 w.1.toNat w.2).putGo r else (11, s.spend)
def inR (N : Nat) (n : Int) : Bool := decide (0 ≤ n) && decide (n < N)
def fitE (N : Nat) (l : List Wr) : Int := if l.all fun w => inR N w.1 then if l.all fun w => w.2.length == 128 then 0 else 1 else 4
def DS.put (s : DS) (N : Nat) (l : List Wr) : Int × DS := if s.down then (11, s) else if fitE N l = 0 then s.putGo l else (fitE N l, s)
def lay (l : List (List UInt8)) (ps : List (Nat × List UInt8)) : List (List UInt8) := ps.foldl (fun l p => l.set p.1 p.2) l
def DS.flush (s : DS) : Int × DS := if s.down then (11, s) else if s.pow then (0, { s.spend with lasting := lay s.lasting s.since, since := [] }) else (11, s.spend)
def DS.fuse (s : DS) (n : Int) : DS := { s with fused := decide (0 ≤ n), left := n }
/-- The i-th number of keep is there, and not 0. -/
def kept (keep : List Int) (i : Nat) : Bool := !((keep[i]?.getD 0) == 0)
/-- Of the writes ps, the first of which has the number i, those that keep keeps. -/
def keeps (keep : List Int) : Nat → List (Nat × List UInt8) → List (Nat × List UInt8)
  | _, [] => []
  | i, p :: r => if kept keep i then p :: keeps keep (i + 1) r else keeps keep (i + 1) r
def DS.restart (s : DS) (keep : List Int) : DS := ⟨lay s.lasting (keeps keep 0 s.since), lay s.lasting (keeps keep 0 s.since), [], false, 0, false⟩

theorem lay_len (ps : List (Nat × List UInt8)) : ∀ l, (lay l ps).length = l.length := by
  induction ps with
  | nil => intro l; rfl
  | cons p r ih => intro l; show (lay (l.set p.1 p.2) r).length = _; rw [ih]; simp
theorem lay_snoc (l : List (List UInt8)) (ps : List (Nat × List UInt8)) (p : Nat × List UInt8) : lay l (ps ++ [p]) = (lay l ps).set p.1 p.2 := by simp [lay]
theorem keeps_snoc (keep : List Int) (p : Nat × List UInt8) : ∀ (ps : List (Nat × List UInt8)) (i : Nat), keeps keep i (ps ++ [p]) = keeps keep i ps ++ (if kept keep (i + ps.length) then [p] else []) := by
  intro ps
  induction ps with
  | nil => intro i; simp [keeps]
  | cons q r ih =>
    intro i
    rw [List.cons_append, keeps, keeps, ih, List.length_cons, show i + 1 + r.length = i + (r.length + 1) by omega]
    split <;> simp
theorem Ok_new (N : Nat) : (newS N).Ok N := ⟨by simp [newS], by simp [newS], by simp [newS], by simp [newS], by simp [newS], by simp [newS]⟩
section
variable {s : DS} {N : Nat}
theorem DS.Ok.spend (h : s.Ok N) (hd : s.down = false) : s.spend.Ok N := by
  unfold DS.spend
  split
  · rename_i hf
    have := h.fuse hf hd
    have := h.hi
    exact ⟨h.now, h.lasting, h.since, by simp; omega, by simp; omega, fun _ hz => by simp at hz ⊢; omega⟩
  · exact h
theorem DS.Ok.put1 (h : s.Ok N) {n : Nat} {d : List UInt8} (hn : n < N) (hd : d.length = 128) : (s.put1 n d).Ok N := by
  refine ⟨by simp [DS.put1, h.now], h.lasting, fun p hp => ?_, h.lo, h.hi, h.fuse⟩
  simp only [DS.put1, List.mem_append, List.mem_singleton] at hp
  rcases hp with hp | rfl
  · exact h.since p hp
  · exact ⟨hn, hd⟩
theorem spend_down (hp : s.pow = true) (hd : s.down = false) : s.spend.down = false := by
  unfold DS.spend
  split
  · rename_i hf
    simpa [DS.pow, hf] using hp
  · exact hd
theorem DS.Ok.fuse_ (h : s.Ok N) {n : Int} (h1 : -9223372036854775808 ≤ n) (h2 : n ≤ 9223372036854775807) : (s.fuse n).Ok N :=
  ⟨h.now, h.lasting, h.since, h1, h2, fun hf _ => by simpa [DS.fuse] using hf⟩
theorem DS.Ok.restart (h : s.Ok N) (keep : List Int) : (s.restart keep).Ok N :=
  ⟨by simp [DS.restart, lay_len, h.lasting], by simp [DS.restart, lay_len, h.lasting], by simp [DS.restart], by simp [DS.restart], by simp [DS.restart], by simp [DS.restart]⟩
end
end Go.Proofs.Ytlhkkelpombbiaa
