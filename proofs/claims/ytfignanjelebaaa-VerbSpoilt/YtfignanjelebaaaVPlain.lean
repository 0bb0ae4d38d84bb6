/- Requests, replies and recalls as bytes. Plain mathematics: what is written is read back; bytes that are read are written as these; no frame is two things. -/
import Derived.Test.YtfignanjelebaaaAwake
import Derived.Test.YtfignanjelebaaaBurst
namespace Go.Proofs.Ytfignanjelebaaa
set_option linter.unusedVariables false
/-- Numbers as fields. -/
def nums (xs : List Int) : List UInt8 := xs.flatMap fun n => lit 4 n.toNat
/-- A text as a field. -/
def txt (l : List UInt8) : List UInt8 := lit 2 l.length ++ l
def num (n : Int) : Prop := 0 ≤ n ∧ n ≤ 1073741824
instance (n : Int) : Decidable (num n) := inferInstanceAs (Decidable (0 ≤ n ∧ n ≤ 1073741824))
theorem nums_nil : nums [] = [] := rfl
theorem nums_cons (n : Int) (xs : List Int) : nums (n :: xs) = lit 4 n.toNat ++ nums xs := by simp [nums]
theorem nums_append (xs ys : List Int) : nums (xs ++ ys) = nums xs ++ nums ys := by simp [nums]
theorem nums_length (xs : List Int) : (nums xs).length = 4 * xs.length := by
  induction xs with
  | nil => rfl
  | cons n xs ih => rw [nums_cons, List.length_append, ih, lit_length, List.length_cons]; omega
theorem txt_length (l : List UInt8) : (txt l).length = l.length + 2 := by simp [txt, lit_length]; omega
/-- The state of fields that are read: what is left, and whether there was too little. -/
abbrev Rest := List UInt8 × Bool
def rn (s : Rest) : Int × Rest := if s.1.length < 4 then (0, [], true) else (big (s.1.take 4), s.1.drop 4, s.2)
def rt (s : Rest) : List UInt8 × Rest :=
  if s.1.length < 2 then ([], [], true) else if (s.1.drop 2).length < big (s.1.take 2) then ([], [], true) else ((s.1.drop 2).take (big (s.1.take 2)), (s.1.drop 2).drop (big (s.1.take 2)), s.2)
def rns : Nat → Rest → List Int × Rest
  | 0, s => ([], s)
  | k + 1, s => ((rn s).1 :: (rns k (rn s).2).1, (rns k (rn s).2).2)
def rts : Nat → Rest → List (List UInt8) × Rest
  | 0, s => ([], s)
  | k + 1, s => ((rt s).1 :: (rts k (rt s).2).1, (rts k (rt s).2).2)
theorem rn_write (n : Int) (r : List UInt8) (sh : Bool) (h0 : 0 ≤ n) (h1 : n < 4294967296) : rn (lit 4 n.toNat ++ r, sh) = (n, r, sh) := by
  have h : ¬ (lit 4 n.toNat ++ r).length < 4 := by rw [List.length_append, lit_length]; omega
  unfold rn
  rw [if_neg h, lit_take, lit_drop, big_lit_of (by omega)]
  congr 1
  omega
theorem rt_write (l r : List UInt8) (sh : Bool) (hl : l.length ≤ 65535) : rt (txt l ++ r, sh) = (l, r, sh) := by
  have e : txt l ++ r = lit 2 l.length ++ (l ++ r) := by simp [txt]
  have h : ¬ (lit 2 l.length ++ (l ++ r)).length < 2 := by rw [List.length_append, lit_length]; omega
  have hb : big (lit 2 l.length) = l.length := big_lit_of (by omega)
  unfold rt
  rw [e, if_neg h, lit_take, lit_drop, hb, if_neg (by rw [List.length_append]; omega), List.take_left' rfl, List.drop_left' rfl]
theorem rns_write (xs : List Int) (r : List UInt8) (sh : Bool) (h : ∀ n ∈ xs, 0 ≤ n ∧ n < 4294967296) : rns xs.length (nums xs ++ r, sh) = (xs, r, sh) := by
  induction xs with
  | nil => rfl
  | cons n xs ih =>
    have hn := h n (by simp)
    rw [nums_cons, List.append_assoc]
    simp only [List.length_cons, rns]
    rw [rn_write n _ sh hn.1 hn.2]
    simp only
    rw [ih fun m hm => h m (by simp [hm])]
theorem rts_write (xs : List (List UInt8)) (r : List UInt8) (sh : Bool) (h : ∀ l ∈ xs, l.length ≤ 65535) : rts xs.length (xs.flatMap txt ++ r, sh) = (xs, r, sh) := by
  induction xs with
  | nil => rfl
  | cons l xs ih =>
    have hl := h l (by simp)
    have e : (l :: xs).flatMap txt ++ r = txt l ++ (xs.flatMap txt ++ r) := by simp
    rw [e]
    simp only [List.length_cons, rts]
    rw [rt_write l _ sh hl]
    simp only
    rw [ih fun m hm => h m (by simp [hm])]
/-- What was short stays short. -/
theorem rn_short {s : Rest} (h : (rn s).2.2 = false) : s.2 = false := by
  unfold rn at h
  split at h
  · simp at h
  · exact h
theorem rt_short {s : Rest} (h : (rt s).2.2 = false) : s.2 = false := by
  unfold rt at h
  split at h
  · simp at h
  · split at h
    · simp at h
    · exact h
theorem big4_lt (l : List UInt8) (h : l.length = 4) : big l < 4294967296 := by have := big_lt l; rw [h] at this; exact this
theorem rn_back {s : Rest} (h : (rn s).2.2 = false) : s.1 = lit 4 (rn s).1.toNat ++ (rn s).2.1 ∧ 0 ≤ (rn s).1 ∧ (rn s).1 < 4294967296 := by
  unfold rn at h ⊢
  split at h
  · simp at h
  · rename_i hn
    rw [if_neg hn]
    have hl : (s.1.take 4).length = 4 := by rw [List.length_take]; omega
    have hb := big4_lt _ hl
    have hlb := lit_big (s.1.take 4)
    rw [hl] at hlb
    refine ⟨?_, by omega, by omega⟩
    simp only [Int.toNat_natCast]
    rw [hlb, List.take_append_drop]
theorem rt_back {s : Rest} (h : (rt s).2.2 = false) : s.1 = txt (rt s).1 ++ (rt s).2.1 ∧ (rt s).1.length ≤ 65535 := by
  unfold rt at h ⊢
  split at h
  · simp at h
  · rename_i hn
    split at h
    · simp at h
    · rename_i hm
      rw [if_neg hn, if_neg hm]
      have hl : (s.1.take 2).length = 2 := by rw [List.length_take]; omega
      have hb : big (s.1.take 2) < 65536 := by have := big_lt (s.1.take 2); rw [hl] at this; exact this
      have hlb := lit_big (s.1.take 2)
      rw [hl] at hlb
      have hlen : ((s.1.drop 2).take (big (s.1.take 2))).length = big (s.1.take 2) := by rw [List.length_take]; omega
      refine ⟨?_, by simp only; omega⟩
      simp only [txt]
      rw [hlen, hlb, List.append_assoc, List.take_append_drop, List.take_append_drop]
theorem rns_short {k : Nat} {s : Rest} (h : (rns k s).2.2 = false) : s.2 = false := by
  induction k generalizing s with
  | zero => exact h
  | succ k ih => exact rn_short (ih h)
theorem rts_short {k : Nat} {s : Rest} (h : (rts k s).2.2 = false) : s.2 = false := by
  induction k generalizing s with
  | zero => exact h
  | succ k ih => exact rt_short (ih h)
theorem rns_back {k : Nat} {s : Rest} (h : (rns k s).2.2 = false) : s.1 = nums (rns k s).1 ++ (rns k s).2.1 ∧ (rns k s).1.length = k ∧ ∀ n ∈ (rns k s).1, 0 ≤ n ∧ n < 4294967296 := by
  induction k generalizing s with
  | zero => exact ⟨rfl, rfl, fun n hn => by cases hn⟩
  | succ k ih =>
    obtain ⟨a, b, c⟩ := ih (s := (rn s).2) h
    obtain ⟨d, e, f⟩ := rn_back (rns_short h)
    refine ⟨?_, by simp only [rns, List.length_cons, b], ?_⟩
    · simp only [rns]
      rw [nums_cons, List.append_assoc, ← a]
      exact d
    · simp only [rns]
      intro n hn
      rcases List.mem_cons.1 hn with rfl | hn
      · exact ⟨e, f⟩
      · exact c n hn
theorem rts_back {k : Nat} {s : Rest} (h : (rts k s).2.2 = false) : s.1 = (rts k s).1.flatMap txt ++ (rts k s).2.1 ∧ (rts k s).1.length = k ∧ ∀ l ∈ (rts k s).1, l.length ≤ 65535 := by
  induction k generalizing s with
  | zero => exact ⟨rfl, rfl, fun n hn => by cases hn⟩
  | succ k ih =>
    obtain ⟨a, b, c⟩ := ih (s := (rt s).2) h
    obtain ⟨d, e⟩ := rt_back (rts_short h)
    refine ⟨?_, by simp only [rts, List.length_cons, b], ?_⟩
    · simp only [rts, List.flatMap_cons]
      rw [List.append_assoc, ← a]
      exact d
    · simp only [rts]
      intro l hl
      rcases List.mem_cons.1 hl with rfl | hl
      · exact e
      · exact c l hl
/-- A request. -/
structure Vb where
  k : Int
  st : Int
  lf : Int
  sq : Int
  ep : Int
  nd : Int
  gn : Int
  a : Int
  sz : Int
  md : Int
  p : List UInt8
  o : List UInt8
  d : List UInt8
/-- Which fields a kind has. -/
def hs (k : Int) : List UInt8 :=
  if k = 1 then [46] else if k = 2 then [112] else if k = 3 then [112] else if k = 4 then [112] else if k = 6 then [112] else if k = 7 then [112] else if k = 9 then [112]
  else if k = 5 then [112, 111] else if k = 8 then [112, 111] else if k = 10 then [104, 97, 115] else if k = 11 then [104, 97, 100] else if k = 12 then [104, 115]
  else if k = 13 then [104, 109] else if k = 15 then [104, 109] else if k = 14 then [104] else []
def Vb.ns (v : Vb) : List Int := [v.k, v.st, v.lf, v.sq, v.ep, v.nd, v.gn, v.a, v.sz, v.md]
def Vb.body (v : Vb) : List UInt8 := nums v.ns ++ (txt v.p ++ (txt v.o ++ txt v.d))
def Vb.frame (v : Vb) : List UInt8 := fram 81 v.body
/-- Numbers and texts are not too great. -/
def Vb.low (v : Vb) : Prop := hs v.k ≠ [] ∧ 0 ≤ v.st ∧ v.st ≤ 7 ∧ 1 ≤ v.lf ∧ num v.lf ∧ num v.sq ∧ num v.ep ∧ v.p.length ≤ 255 ∧ v.o.length ≤ 255
def Vb.mid (v : Vb) : Prop := num v.nd ∧ num v.gn ∧ num v.a ∧ num v.sz
/-- All is empty but what its kind has. -/
def Vb.own (v : Vb) : Prop := (112 ∈ hs v.k ∨ v.p = []) ∧ (111 ∈ hs v.k ∨ v.o = []) ∧ (104 ∈ hs v.k ∨ v.nd = 0 ∧ v.gn = 0) ∧ (97 ∈ hs v.k ∨ v.a = 0) ∧ (115 ∈ hs v.k ∨ v.sz = 0) ∧ (109 ∈ hs v.k ∨ v.md = 0) ∧ (100 ∈ hs v.k ∨ v.d = [])
def Vb.kind (v : Vb) : Prop := (v.k = 10 → 1 ≤ v.sz ∧ v.sz ≤ 256) ∧ (v.k = 11 → 1 ≤ v.d.length ∧ v.d.length ≤ 256) ∧ (v.k = 13 ∨ v.k = 15 → v.md = 1 ∨ v.md = 2)
def Vb.Good (v : Vb) : Prop := v.low ∧ v.mid ∧ v.own ∧ v.kind
instance (v : Vb) : Decidable v.low := by unfold Vb.low; infer_instance
instance (v : Vb) : Decidable v.mid := by unfold Vb.mid; infer_instance
instance (v : Vb) : Decidable v.own := by unfold Vb.own; infer_instance
instance (v : Vb) : Decidable v.kind := by unfold Vb.kind; infer_instance
instance (v : Vb) : Decidable v.Good := by unfold Vb.Good; infer_instance
theorem hs_kind {k : Int} (h : hs k ≠ []) : 1 ≤ k ∧ k ≤ 15 := by
  by_cases h1 : 1 ≤ k ∧ k ≤ 15
  · exact h1
  · exfalso
    apply h
    unfold hs
    repeat rw [if_neg (by omega)]
theorem hs_nat {k : Int} {b : UInt8} (h : b ∈ hs k) : ∃ n : Nat, k = n ∧ n < 16 := by
  have := hs_kind (List.ne_nil_of_mem h)
  exact ⟨k.toNat, by omega, by omega⟩
theorem hs_one {k : Int} {b : UInt8} (hb : b = 109) (h : b ∈ hs k) : k = 13 ∨ k = 15 := by
  subst hb
  obtain ⟨n, rfl, hn⟩ := hs_nat h
  have all : ∀ n : Nat, n < 16 → (109 : UInt8) ∈ hs n → n = 13 ∨ n = 15 := by decide
  have := all n hn h
  omega
theorem hs_data {k : Int} {b : UInt8} (hb : b = 100) (h : b ∈ hs k) : k = 11 := by
  subst hb
  obtain ⟨n, rfl, hn⟩ := hs_nat h
  have all : ∀ n : Nat, n < 16 → (100 : UInt8) ∈ hs n → n = 11 := by decide
  have := all n hn h
  omega
theorem Vb.Good.md {v : Vb} (h : v.Good) : 0 ≤ v.md ∧ v.md ≤ 2 := by
  obtain ⟨_, _, ⟨_, _, _, _, _, h1, _⟩, _, _, h2⟩ := h
  rcases h1 with h1 | h1
  · have := h2 (hs_one rfl h1)
    omega
  · omega
theorem Vb.Good.dl {v : Vb} (h : v.Good) : v.d.length ≤ 256 := by
  obtain ⟨_, _, ⟨_, _, _, _, _, _, h1⟩, _, h2, _⟩ := h
  rcases h1 with h1 | h1
  · exact (h2 (hs_data rfl h1)).2
  · rw [h1]; simp
theorem Vb.Good.ns {v : Vb} (h : v.Good) : ∀ n ∈ v.ns, 0 ≤ n ∧ n < 4294967296 := by
  have hm := h.md
  have hk := hs_kind h.1.1
  obtain ⟨⟨_, h0, h1, h2, h3, h4, h5, _, _⟩, ⟨h6, h7, h8, h9⟩, _, _⟩ := h
  simp only [num] at *
  intro n hn
  simp only [Vb.ns, List.mem_cons, List.not_mem_nil, or_false] at hn
  rcases hn with rfl | rfl | rfl | rfl | rfl | rfl | rfl | rfl | rfl | rfl <;> omega
theorem Vb.body_length (v : Vb) : v.body.length = 46 + v.p.length + v.o.length + v.d.length := by
  simp only [Vb.body, List.length_append, nums_length, txt_length, Vb.ns, List.length_cons, List.length_nil]
  omega
theorem Vb.Good.len {v : Vb} (h : v.Good) : v.body.length ≤ 812 := by
  have := h.dl
  have h1 := h.1
  simp only [Vb.low] at h1
  rw [v.body_length]
  omega
/-- A request, read. -/
def rdV (l : List UInt8) : List Int × List (List UInt8) × Rest := ((rns 10 (l, false)).1, rts 3 (rns 10 (l, false)).2)
theorem rdV_write (v : Vb) (h : v.Good) : rdV v.body = (v.ns, [v.p, v.o, v.d], [], false) := by
  have h1 := h.1
  have hd := h.dl
  simp only [Vb.low] at h1
  have e := rns_write v.ns (txt v.p ++ (txt v.o ++ txt v.d)) false h.ns
  have e2 := rts_write [v.p, v.o, v.d] [] false (by
    intro l hl
    simp only [List.mem_cons, List.not_mem_nil, or_false] at hl
    rcases hl with rfl | rfl | rfl <;> omega)
  simp only [List.flatMap_cons, List.flatMap_nil, List.append_nil] at e2
  unfold rdV Vb.body
  have e' : rns 10 (nums v.ns ++ (txt v.p ++ (txt v.o ++ txt v.d)), false) = (v.ns, txt v.p ++ (txt v.o ++ txt v.d), false) := e
  have e2' : rts 3 (txt v.p ++ (txt v.o ++ txt v.d), false) = ([v.p, v.o, v.d], [], false) := e2
  rw [e', e2']
theorem Vb.ext_of {v x : Vb} (h : v.ns = x.ns) (hp : v.p = x.p) (ho : v.o = x.o) (hd : v.d = x.d) : v = x := by
  cases v
  cases x
  simp only [Vb.ns, List.cons.injEq, and_true] at h
  simp_all
theorem Vb.body_inj {v x : Vb} (hv : v.Good) (hx : x.Good) (h : v.body = x.body) : v = x := by
  have e1 := rdV_write v hv
  have e2 := rdV_write x hx
  rw [h, e2] at e1
  simp only [Prod.mk.injEq, List.cons.injEq, and_true] at e1
  exact (Vb.ext_of e1.1 e1.2.1 e1.2.2.1 e1.2.2.2).symm
theorem fram_inj {a b : UInt8} {x y : List UInt8} (h : fram a x = fram b y) : a = b ∧ x = y := by
  have h1 := fram_head a x
  rw [h, fram_head] at h1
  have h2 := fram_take a x
  rw [h, fram_take] at h2
  have h3 := body_drop a x
  rw [← h2, body_drop] at h3
  exact ⟨h1.symm, h3.symm⟩
theorem Vb.frame_inj {v x : Vb} (hv : v.Good) (hx : x.Good) (h : v.frame = x.frame) : v = x := Vb.body_inj hv hx (fram_inj h).2
/-- A request out of what was read. -/
def Vb.mk_of (xs : List Int) (ts : List (List UInt8)) : Vb := ⟨xs[0]?.getD 0, xs[1]?.getD 0, xs[2]?.getD 0, xs[3]?.getD 0, xs[4]?.getD 0, xs[5]?.getD 0, xs[6]?.getD 0, xs[7]?.getD 0, xs[8]?.getD 0, xs[9]?.getD 0, ts[0]?.getD [], ts[1]?.getD [], ts[2]?.getD []⟩
theorem len3 {α : Type} {ts : List α} (h : ts.length = 3) : ∃ a b c, ts = [a, b, c] := by
  match ts, h with
  | [a, b, c], _ => exact ⟨a, b, c, rfl⟩
theorem len10 {α : Type} {ts : List α} (h : ts.length = 10) : ∃ a b c d e f g i j k, ts = [a, b, c, d, e, f, g, i, j, k] := by
  match ts, h with
  | [a, b, c, d, e, f, g, i, j, k], _ => exact ⟨a, b, c, d, e, f, g, i, j, k, rfl⟩
theorem rdV_back (l : List UInt8) (h : (rdV l).2.2 = ([], false)) : l = (Vb.mk_of (rdV l).1 (rdV l).2.1).body := by
  have h2 : (rts 3 (rns 10 (l, false)).2).2 = ([], false) := h
  obtain ⟨a, b, c⟩ := rts_back (k := 3) (s := (rns 10 (l, false)).2) (by rw [h2])
  obtain ⟨a', b', c'⟩ := rns_back (k := 10) (s := (l, false)) (rts_short (k := 3) (by rw [h2]))
  have h3 : (rts 3 (rns 10 (l, false)).2).2.1 = [] := by rw [h2]
  rw [h3, List.append_nil] at a
  rw [a] at a'
  simp only [rdV]
  generalize (rns 10 (l, false)).1 = xs at *
  generalize (rts 3 (rns 10 (l, false)).2).1 = ts at *
  obtain ⟨x0, x1, x2, x3, x4, x5, x6, x7, x8, x9, rfl⟩ := len10 b'
  obtain ⟨t0, t1, t2, rfl⟩ := len3 b
  simp only at a'
  rw [a']
  simp [Vb.body, Vb.ns, Vb.mk_of]
/-- A reply. -/
structure Rp where
  lf : Int
  sq : Int
  ep : Int
  e : Int
  nd : Int
  gn : Int
  k : Int
  lk : Int
  sz : Int
  ch : Int
  d : List UInt8
  ns : List (List UInt8)
def Rp.st (r : Rp) : List Int := [r.nd, r.gn, r.k, r.lk, r.sz, r.ch]
def Rp.xs (r : Rp) : List Int := [r.lf, r.sq, r.ep, r.e] ++ r.st
def Rp.body (r : Rp) : List UInt8 := nums r.xs ++ (txt r.d ++ (lit 4 r.ns.length ++ r.ns.flatMap txt))
def Rp.frame (r : Rp) : List UInt8 := fram 65 r.body
def Rp.short (r : Rp) : List UInt8 := nums (r.e :: r.st)
def Rp.low (r : Rp) : Prop := 0 ≤ r.e ∧ r.e ≤ 23 ∧ r.d.length ≤ 256 ∧ r.ns.length ≤ 512 ∧ num r.lf ∧ num r.sq ∧ num r.ep
def Rp.few (r : Rp) : Prop := ∀ s ∈ r.ns, s.length ≤ 24
def Rp.stat (r : Rp) : Prop := num r.nd ∧ num r.gn ∧ num r.k ∧ num r.lk ∧ num r.sz ∧ num r.ch
def Rp.Good (r : Rp) : Prop := r.low ∧ r.few ∧ r.stat
instance (r : Rp) : Decidable r.low := by unfold Rp.low; infer_instance
instance (r : Rp) : Decidable r.few := by unfold Rp.few; infer_instance
instance (r : Rp) : Decidable r.stat := by unfold Rp.stat; infer_instance
instance (r : Rp) : Decidable r.Good := by unfold Rp.Good; infer_instance
theorem Rp.Good.nums {r : Rp} (h : r.Good) : ∀ n ∈ r.xs, 0 ≤ n ∧ n < 4294967296 := by
  obtain ⟨⟨h0, h1, _, _, h2, h3, h4⟩, _, h5, h6, h7, h8, h9, h10⟩ := h
  simp only [num] at *
  intro n hn
  simp only [Rp.xs, Rp.st, List.cons_append, List.nil_append, List.mem_cons, List.not_mem_nil, or_false] at hn
  rcases hn with rfl | rfl | rfl | rfl | rfl | rfl | rfl | rfl | rfl | rfl <;> omega
theorem texts_length (ns : List (List UInt8)) (h : ∀ s ∈ ns, s.length ≤ 24) : (ns.flatMap txt).length ≤ 26 * ns.length := by
  induction ns with
  | nil => simp
  | cons s ns ih =>
    have h1 := h s (by simp)
    have h2 := ih fun x hx => h x (by simp [hx])
    rw [List.flatMap_cons, List.length_append, txt_length, List.length_cons]
    omega
theorem Rp.body_length (r : Rp) : r.body.length = 46 + r.d.length + (r.ns.flatMap txt).length := by
  simp only [Rp.body, List.length_append, nums_length, txt_length, lit_length, Rp.xs, Rp.st, List.length_cons, List.length_nil]
  omega
theorem Rp.Good.len {r : Rp} (h : r.Good) : r.body.length ≤ 13614 := by
  have h1 := texts_length r.ns h.2.1
  have h2 := h.1
  simp only [Rp.low] at h2
  rw [r.body_length]
  omega
/-- A reply, read: ten numbers, a text, how many, and so many texts. -/
def rdR (l : List UInt8) : List Int × List UInt8 × Int × Rest :=
  ((rns 10 (l, false)).1, (rt (rns 10 (l, false)).2).1, (rn (rt (rns 10 (l, false)).2).2).1, (rn (rt (rns 10 (l, false)).2).2).2)
theorem rdR_write (r : Rp) (h : r.Good) : rdR r.body = (r.xs, r.d, (r.ns.length : Int), (r.ns.flatMap txt, false)) := by
  have h1 := h.1
  simp only [Rp.low] at h1
  have e1 := rns_write r.xs (txt r.d ++ (lit 4 r.ns.length ++ r.ns.flatMap txt)) false h.nums
  have e2 := rt_write r.d (lit 4 r.ns.length ++ r.ns.flatMap txt) false (by omega)
  have e3 := rn_write (r.ns.length : Int) (r.ns.flatMap txt) false (by omega) (by omega)
  rw [Int.toNat_natCast] at e3
  have e1' : rns 10 (r.body, false) = (r.xs, txt r.d ++ (lit 4 r.ns.length ++ r.ns.flatMap txt), false) := e1
  unfold rdR
  rw [e1']
  simp only [e2, e3]
theorem rts_names (r : Rp) (h : r.Good) : rts r.ns.length (r.ns.flatMap txt, false) = (r.ns, [], false) := by
  have := rts_write r.ns [] false fun l hl => Nat.le_trans (h.2.1 l hl) (by omega)
  rwa [List.append_nil] at this
theorem Rp.ext_of {r x : Rp} (h : r.xs = x.xs) (hd : r.d = x.d) (hn : r.ns = x.ns) : r = x := by
  cases r
  cases x
  simp only [Rp.xs, Rp.st, List.cons_append, List.nil_append, List.cons.injEq, and_true] at h
  simp_all
theorem Rp.body_inj {r x : Rp} (hr : r.Good) (hx : x.Good) (h : r.body = x.body) : r = x := by
  have e1 := rdR_write r hr
  have e2 := rdR_write x hx
  have e3 := rts_names r hr
  have e4 := rts_names x hx
  rw [h, e2] at e1
  simp only [Prod.mk.injEq, and_true] at e1
  obtain ⟨a, b, c, d⟩ := e1
  have c' : r.ns.length = x.ns.length := by omega
  rw [← d, c', e4] at e3
  simp only [Prod.mk.injEq, and_true] at e3
  exact (Rp.ext_of a b e3).symm
theorem Rp.frame_inj {r x : Rp} (hr : r.Good) (hx : x.Good) (h : r.frame = x.frame) : r = x := Rp.body_inj hr hx (fram_inj h).2
/-- A recall. -/
structure Rc where
  ep : Int
  nd : Int
  gn : Int
def Rc.xs (r : Rc) : List Int := [r.ep, r.nd, r.gn]
def Rc.frame (r : Rc) : List UInt8 := fram 67 (nums r.xs)
def Rc.Good (r : Rc) : Prop := num r.ep ∧ num r.nd ∧ num r.gn
instance (r : Rc) : Decidable r.Good := by unfold Rc.Good; infer_instance
theorem Rc.Good.nums {r : Rc} (h : r.Good) : ∀ n ∈ r.xs, 0 ≤ n ∧ n < 4294967296 := by
  obtain ⟨h0, h1, h2⟩ := h
  simp only [num] at *
  intro n hn
  simp only [Rc.xs, List.mem_cons, List.not_mem_nil, or_false] at hn
  rcases hn with rfl | rfl | rfl <;> omega
theorem nums_inj {xs ys : List Int} (hl : xs.length = ys.length) (hx : ∀ n ∈ xs, 0 ≤ n ∧ n < 4294967296) (hy : ∀ n ∈ ys, 0 ≤ n ∧ n < 4294967296) (h : nums xs = nums ys) : xs = ys := by
  have e1 := rns_write xs [] false hx
  have e2 := rns_write ys [] false hy
  rw [h, hl, e2] at e1
  simp only [Prod.mk.injEq, and_true] at e1
  exact e1.symm
theorem Rc.frame_inj {r x : Rc} (hr : r.Good) (hx : x.Good) (h : r.frame = x.frame) : r = x := by
  have h1 := nums_inj (by rfl) hr.nums hx.nums (fram_inj h).2
  cases r
  cases x
  simp only [Rc.xs, List.cons.injEq, and_true] at h1
  simp_all
theorem short_in {r : Rp} {n : Int} (h : n ∈ r.e :: r.st) : n ∈ r.xs := by
  simp only [Rp.xs, List.mem_append]
  rcases List.mem_cons.1 h with rfl | h
  · exact .inl (by simp)
  · exact .inr h
theorem Rp.short_inj {r x : Rp} (hr : r.Good) (hx : x.Good) (h : r.short = x.short) : r.e = x.e ∧ r.st = x.st := by
  have h1 := nums_inj (xs := r.e :: r.st) (ys := x.e :: x.st) (by rfl) (fun n hn => hr.nums n (short_in hn)) (fun n hn => hx.nums n (short_in hn)) h
  simp only [List.cons.injEq] at h1
  exact h1
/-- A frame's length stands in it. -/
theorem fram_length_of {a b : UInt8} {x y : List UInt8} (hx : x.length ≤ 65535) (hy : y.length ≤ 65535) (h : (fram a x).take 3 = (fram b y).take 3) : x.length = y.length := by
  have e1 := fram_len2 a x
  have e2 := fram_len2 b y
  have h1 : ((fram a x).drop 1).take 2 = ((fram b y).drop 1).take 2 := by
    have := congrArg (List.drop 1) h
    rw [List.drop_take, List.drop_take] at this
    exact this
  rw [e1, e2] at h1
  exact lit_inj (k := 2) (by omega) (by omega) h1
theorem fram_cut {a b : UInt8} {x y : List UInt8} (hx : x.length ≤ 65535) (hy : y.length ≤ 65535) {m : Nat} (hm : m < (fram a x).length) : (fram a x).take m ≠ fram b y := by
  intro h
  have h1 := congrArg List.length h
  rw [List.length_take, fram_length, fram_length] at h1
  rw [fram_length] at hm
  have h2 := congrArg (List.take 3) h
  rw [List.take_take, Nat.min_eq_left (by omega)] at h2
  have := fram_length_of hx hy h2
  omega
theorem fram_more {a b : UInt8} {x y z : List UInt8} (hx : x.length ≤ 65535) (hy : y.length ≤ 65535) (hz : z ≠ []) : fram a x ++ z ≠ fram b y := by
  intro h
  have h1 := congrArg List.length h
  rw [List.length_append, fram_length, fram_length] at h1
  have h2 := congrArg (List.take 3) h
  rw [List.take_append_of_le_length (by rw [fram_length]; omega)] at h2
  have := fram_length_of hx hy h2
  have := List.length_pos_iff.2 hz
  omega
theorem fram_whole (a : UInt8) (x : List UInt8) : Whole (fram a x) := by
  unfold Whole
  rw [fram_take, fram_drop, big_lit_of (crc_lt _)]
theorem fram_turned {a b : UInt8} {x y : List UInt8} {p : Nat} (hp : p / 8 < (fram a x).length) : (fram a x).set (p / 8) (((fram a x)[p / 8]?.getD 0) ^^^ UInt8.ofNat (2 ^ (p % 8))) ≠ fram b y := by
  intro h
  have hw := fram_whole b y
  rw [← h] at hw
  refine burst_told (l := fram a x) (burst := 1) (k := p) (by rw [fram_length]; omega) (by simp) (by omega) (by omega) (by omega) (fram_whole a x) ?_ hw
  rw [big_turn _ _ hp, Nat.one_mul]
end Go.Proofs.Ytfignanjelebaaa
