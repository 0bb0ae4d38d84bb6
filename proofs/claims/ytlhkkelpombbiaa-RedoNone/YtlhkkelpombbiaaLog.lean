/- Plain mathematics: heads as bytes, and back; what Commit and Recover make of a drive's state. No program. -/
import Derived.Test.YtlhkkelpombbiaaPlain
import Derived.Test.YtlhkkelpombbiaaFPlain
namespace Go.Proofs.Ytlhkkelpombbiaa
set_option linter.unusedVariables false

/-- May the number be in a head? -/
def okn (n : Int) : Bool := decide (0 ≤ n) && decide (n < 1024) && !(decide (1 ≤ n) && decide (n < 26))
theorem okn_iff {n : Int} : okn n = true ↔ 0 ≤ n ∧ n < 1024 ∧ (n < 1 ∨ 26 ≤ n) := by
  unfold okn
  simp only [Bool.and_eq_true, decide_eq_true_eq, Bool.not_eq_true', Bool.and_eq_false_iff, decide_eq_false_iff_not]
  omega
def good (l : List Int) : Bool := decide (l.length ≤ 24) && (l.all okn && decide l.Nodup)
theorem good_iff {l : List Int} : good l = true ↔ l.length ≤ 24 ∧ (∀ n ∈ l, okn n = true) ∧ l.Nodup := by
  unfold good
  simp only [Bool.and_eq_true, decide_eq_true_eq, List.all_eq_true]
def hbody (l : List Int) : List UInt8 := [82, 69, 68, 79] ++ F.lit 4 l.length ++ l.flatMap fun n => F.lit 2 n.toNat
def hpre (l : List Int) : List UInt8 := hbody l ++ List.replicate (124 - (hbody l).length) 0
/-- The head of numbers. -/
def hd (l : List Int) : List UInt8 := hpre l ++ F.lit 4 (F.crc (hpre l))
theorem flat2_len (l : List Int) : (l.flatMap fun n => F.lit 2 n.toNat).length = 2 * l.length := by
  induction l with
  | nil => rfl
  | cons a r ih => rw [List.flatMap_cons, List.length_append, ih, F.lit_length, List.length_cons]; omega
theorem hbody_len (l : List Int) : (hbody l).length = 8 + 2 * l.length := by
  unfold hbody
  rw [List.length_append, List.length_append, F.lit_length, flat2_len]
  rfl
theorem hpre_len {l : List Int} (h : l.length ≤ 24) : (hpre l).length = 124 := by
  unfold hpre
  rw [List.length_append, List.length_replicate, hbody_len]
  omega
theorem hd_len {l : List Int} (h : l.length ≤ 24) : (hd l).length = 128 := by
  unfold hd
  rw [List.length_append, hpre_len h, F.lit_length]
/-- How many numbers a head says that it has. -/
def cnt (b : List UInt8) : Nat := F.big ((b.drop 4).take 4)
def num (b : List UInt8) (i : Nat) : Int := ((b[8 + 2 * i]?.getD 0).toNat + 256 * (b[8 + 2 * i + 1]?.getD 0).toNat : Nat)
def nums (b : List UInt8) (k : Nat) : List Int := (List.range k).map (num b)
theorem nums_len (b : List UInt8) (k : Nat) : (nums b k).length = k := by simp [nums]
def HdOk (b : List UInt8) : Prop := b.length = 128 ∧ cnt b ≤ 24 ∧ good (nums b (cnt b)) = true ∧ hd (nums b (cnt b)) = b
instance (b : List UInt8) : Decidable (HdOk b) := by unfold HdOk; infer_instance
/-- The numbers of a head, if it is one. -/
def isHd (b : List UInt8) : Option (List Int) := if HdOk b then some (nums b (cnt b)) else none
theorem isHd_some {b : List UInt8} {ns : List Int} (h : isHd b = some ns) : good ns = true ∧ hd ns = b := by
  unfold isHd at h
  split at h
  · rename_i hk
    cases h
    exact ⟨hk.2.2.1, hk.2.2.2⟩
  · cases h
theorem flat2_get : ∀ {l : List Int} {i : Nat} {n : Int}, l[i]? = some n → (l.flatMap fun n => F.lit 2 n.toNat)[2 * i]? = some (UInt8.ofNat n.toNat) ∧ (l.flatMap fun n => F.lit 2 n.toNat)[2 * i + 1]? = some (UInt8.ofNat (n.toNat / 256)) := by
  intro l
  induction l with
  | nil => intro i n h; simp at h
  | cons a r ih =>
    intro i n h
    rw [List.flatMap_cons]
    have ha : F.lit 2 a.toNat = [UInt8.ofNat a.toNat, UInt8.ofNat (a.toNat / 256)] := rfl
    rw [ha]
    cases i with
    | zero =>
      simp at h
      subst h
      exact ⟨rfl, rfl⟩
    | succ i =>
      have h' : r[i]? = some n := by simpa using h
      obtain ⟨h1, h2⟩ := ih h'
      have e1 : 2 * (i + 1) = 2 * i + 2 := by omega
      rw [e1]
      exact ⟨by simpa using h1, by simpa using h2⟩
theorem hd_get {l : List Int} (hl : l.length ≤ 24) {j : Nat} (hj : j < (hbody l).length) : (hd l)[j]? = (hbody l)[j]? := by
  have := hbody_len l
  unfold hd hpre
  rw [List.getElem?_append_left (by rw [List.length_append]; omega), List.getElem?_append_left hj]
theorem hbody_get (l : List Int) (j : Nat) : (hbody l)[8 + j]? = (l.flatMap fun n => F.lit 2 n.toNat)[j]? := by
  unfold hbody
  rw [List.getElem?_append_right (by rw [List.length_append, F.lit_length]; simp)]
  congr 1
  rw [List.length_append, F.lit_length]
  simp
theorem cnt_hd {l : List Int} (hl : l.length ≤ 24) : cnt (hd l) = l.length := by
  unfold cnt
  have : (hd l).drop 4 = F.lit 4 l.length ++ (l.flatMap (fun n => F.lit 2 n.toNat) ++ List.replicate (124 - (hbody l).length) 0 ++ F.lit 4 (F.crc (hpre l))) := by
    unfold hd
    conv => lhs; arg 2; arg 1; unfold hpre
    conv => lhs; arg 2; arg 1; arg 1; unfold hbody
    simp
  rw [this, List.take_left' (F.lit_length _ _), F.big_lit]
  omega
theorem num_hd {l : List Int} (hl : l.length ≤ 24) {i : Nat} {n : Int} (hi : l[i]? = some n) (hn : 0 ≤ n ∧ n < 65536) : num (hd l) i = n := by
  have hlt : i < l.length := (List.getElem?_eq_some_iff.1 hi).1
  obtain ⟨h1, h2⟩ := flat2_get hi
  have hb := hbody_len l
  unfold num
  rw [Nat.add_assoc, hd_get hl (by omega), hd_get hl (by omega), hbody_get, hbody_get, h1, h2]
  simp only [Option.getD_some, UInt8.toNat_ofNat']
  omega
theorem nums_hd {l : List Int} (h : good l = true) : nums (hd l) l.length = l := by
  obtain ⟨h1, h2, _⟩ := good_iff.1 h
  apply List.ext_getElem
  · rw [nums_len]
  · intro i g1 g2
    have hn := okn_iff.1 (h2 l[i] (List.getElem_mem g2))
    simp only [nums, List.getElem_map, List.getElem_range]
    exact num_hd h1 (List.getElem?_eq_getElem g2) ⟨hn.1, by omega⟩
theorem isHd_hd {l : List Int} (h : good l = true) : isHd (hd l) = some l := by
  have h1 := (good_iff.1 h).1
  have hk : HdOk (hd l) := by
    unfold HdOk
    rw [cnt_hd h1, nums_hd h]
    exact ⟨hd_len h1, h1, h, rfl⟩
  unfold isHd
  rw [if_pos hk, cnt_hd h1, nums_hd h]
theorem good_nil : good [] = true := rfl

def withinL (N : Nat) (ns : List Int) : Bool := ns.all fun n => decide (0 ≤ n) && decide (n < N)
def wholeL (ws : List Wr) : Bool := ws.all fun w => w.2.length == 128
def DS.lasts (s : DS) (N : Nat) (ws : List Wr) : Int × DS := if (s.put N ws).1 = 0 then (s.put N ws).2.flush else s.put N ws
def DS.head (s : DS) (N : Nat) (ns : List Int) : Int × DS := s.lasts N [(1, hd ns)]
def DS.apply (s : DS) (N : Nat) (ws : List Wr) : Int × DS := if (s.lasts N ws).1 = 0 then (s.lasts N ws).2.head N [] else s.lasts N ws
def DS.settle (s : DS) : Int × DS := if s.down then (11, s) else if s.now[1]? = s.lasting[1]? then (0, s) else s.flush
def DS.bodyOf (s : DS) (ns : List Int) : List Wr := ns.mapIdx fun i n => (n, s.now[2 + i]?.getD [])
def DS.finish (s : DS) (N : Nat) (ns : List Int) : Int × DS := if s.settle.1 = 0 then if ns = [] then s.settle else s.settle.2.apply N (s.settle.2.bodyOf ns) else s.settle
def DS.recover (s : DS) (N : Nat) : Int × DS :=
  if s.down then (11, s) else match isHd (s.now[1]?.getD []) with
  | none => (2, s)
  | some ns => if withinL N ns then s.finish N ns else (2, s)
def inBodyL (ws : List Wr) : List Wr := ws.mapIdx fun i w => (2 + (i : Int), w.2)
/-- Commit's writes: the body, the head, the places, the empty head. -/
def DS.log (s : DS) (N : Nat) (ws : List Wr) : Int × DS :=
  if (s.lasts N (inBodyL ws)).1 = 0 then
    if ((s.lasts N (inBodyL ws)).2.head N (ws.map (·.1))).1 = 0 then ((s.lasts N (inBodyL ws)).2.head N (ws.map (·.1))).2.apply N ws
    else (s.lasts N (inBodyL ws)).2.head N (ws.map (·.1))
  else s.lasts N (inBodyL ws)
/-- May this be committed? -/
def fit (N : Nat) (ws : List Wr) : Bool := good (ws.map (·.1)) && (withinL N (ws.map (·.1)) && wholeL ws)
/-- Commit, where the head has no numbers, or is none. -/
def DS.commit (s : DS) (N : Nat) (ws : List Wr) : Int × DS :=
  if ws = [] then (0, s) else if fit N ws then if s.down then (11, s) else match isHd (s.now[1]?.getD []) with
  | none => (2, s)
  | some _ => s.log N ws
  else (1, s)
end Go.Proofs.Ytlhkkelpombbiaa
