/- tree.Parts, walked. -/
import Derived.Test.YtijbgdihnjnllaaGreatTSmall
namespace Go.Proofs.YtijbgdihnjnllaaGreat.T
open Go.RowKit
set_option linter.unusedVariables false

theorem Tryz.info43 : (Tryz.prog.info? 112).map (fun i => (i.zero, i.size, i.bytes)) = some (some (.agg #[.int .i64 0, .int .i64 0, .int .i64 0]), 3, 24) := by kernel_rfl
theorem flat_get {α : Type} {f : α → List Value} {k : Nat} : ∀ {l : List α}, (∀ x ∈ l, (f x).length = k) → ∀ {i j : Nat} {x : α}, l[i]? = some x → j < k → (l.flatMap f)[i * k + j]? = (f x)[j]? := by
  intro l
  induction l with
  | nil => intro _ i j x h; simp at h
  | cons a r ih =>
    intro hk i j x h hj
    have ha : (f a).length = k := hk a (by simp)
    rw [List.flatMap_cons]
    cases i with
    | zero =>
      simp at h
      subst h
      rw [Nat.zero_mul, Nat.zero_add, List.getElem?_append_left (by omega)]
    | succ i =>
      rw [List.getElem?_append_right (by rw [ha, Nat.succ_mul]; omega), ha, show (i + 1) * k + j - k = i * k + j by rw [Nat.succ_mul]; omega]
      exact ih (fun x hx => hk x (by simp [hx])) (by simpa using h) hj
/-- A part's three cells. -/
def pc (a s j : Nat) : List Value := [.int .i64 (pb a j), .int .i64 (pf a j), .int .i64 (pt a s j)]
def pcs (a s k : Nat) : List Value := (List.range k).flatMap (pc a s)
theorem pcs_succ (a s k : Nat) : pcs a s (k + 1) = pcs a s k ++ pc a s k := by
  unfold pcs
  rw [List.range_succ, List.flatMap_append]
  simp
theorem pcs_get {a s k i j : Nat} (hi : i < k) (hj : j < 3) : (pcs a s k)[i * 3 + j]? = (pc a s i)[j]? := flat_get (f := pc a s) (k := 3) (l := List.range k) (x := i) (fun x _ => rfl) (List.getElem?_range hi) hj
theorem appP_run {w : World} {base k : Nat} {v : Value} {xs : List Value} (x y z : Int) (hown : w.ownsRow base 112 3 v k xs) (hk : k ≤ 1000) (hbase : base ≤ w.heap.size) :
    ∃ v' w', (Builtin.append_ #[108, 108] 108 #[v, .slice (some ⟨w.heap.size, 0, none⟩) 1 1]).run Tryz.prog (w.alloc (.cells #[.int .i64 x, .int .i64 y, .int .i64 z] 112)) = .ok v' w' ∧ w'.ownsRow base 112 3 v' (k + 1) (xs ++ [.int .i64 x, .int .i64 y, .int .i64 z]) ∧ Below base w w' := by
  obtain ⟨i0, hi, hz0, hz1, hz2⟩ := info_parts Tryz.info43
  obtain ⟨v', w', hr, h2, h3, _⟩ := run_append_own (P := Tryz.prog) (w.alloc (.cells #[.int .i64 x, .int .i64 y, .int .i64 z] 112)) base 108 108 112 i0 _ 3 24 Tryz.underlying108 hi hz0 hz1 hz2 rfl (by decide) v k xs (hown.alloc _) ⟨w.heap.size, 0, none⟩ 1 1 [.int .i64 x, .int .i64 y, .int .i64 z] (by rfl)
    (fun j u hu => by
      rw [Addr.add_lit, World.cell?_alloc_mark, Nat.zero_add]
      match j, hu with
      | 0, hu => exact hu
      | 1, hu => exact hu
      | 2, hu => exact hu
      | j + 3, hu => simp at hu) (fun u hu => by simp only [List.mem_cons, List.not_mem_nil, or_false] at hu; rcases hu with rfl | rfl | rfl <;> rfl) (by unfold maxLen; omega) (by omega) (by simp; omega)
  exact ⟨v', w', hr, h2, ((Below.refl base w).alloc hbase _).grown h3 (by simp; omega) fun j hj => (hown.lt j hj).1⟩
/-- A slice of parts: those of s bytes from a on. -/
structure Pts (w : World) (B : Nat) (A : Option Addr) (n c : Nat) (a s : Nat) : Prop where
  len : n = np a s
  cap : n ≤ c
  lim : c ≤ maxLen
  at_ : 0 < n → ∃ b, A = some ⟨b, 0, none⟩ ∧ b < B ∧ ∀ j, j < n → w.cell? ⟨b, j * 3, none⟩ = some (.int .i64 (pb a j)) ∧ w.cell? ⟨b, j * 3 + 1, none⟩ = some (.int .i64 (pf a j)) ∧ w.cell? ⟨b, j * 3 + 2, none⟩ = some (.int .i64 (pt a s j))
section
variable {w w' : World} {B B' n c a s : Nat} {A : Option Addr}
theorem Pts.keep (h : Pts w B A n c a s) (hk : ∀ p : Addr, p.block < B → w'.cell? p = w.cell? p) : Pts w' B A n c a s :=
  ⟨h.len, h.cap, h.lim, fun hn => by
    obtain ⟨b, e, hb, hc⟩ := h.at_ hn
    exact ⟨b, e, hb, fun j hj => ⟨(hk _ hb).trans (hc j hj).1, (hk _ hb).trans (hc j hj).2.1, (hk _ hb).trans (hc j hj).2.2⟩⟩⟩
theorem Pts.more (h : Pts w B A n c a s) (hB : B ≤ B') : Pts w B' A n c a s :=
  ⟨h.len, h.cap, h.lim, fun hn => by
    obtain ⟨b, e, hb, hc⟩ := h.at_ hn
    exact ⟨b, e, by omega, hc⟩⟩
theorem Pts.below (h : Pts w B A n c a s) (hb : Below B w w') : Pts w' B A n c a s := h.keep fun _ hp => hb.cell hp
theorem Pts.nil_ (w : World) (B a : Nat) : Pts w B none 0 0 a 0 := ⟨rfl, Nat.le_refl _, by decide, fun h => absurd h (by omega)⟩
end
theorem own_pts {w : World} {base a s : Nat} {v : Value} (h : w.ownsRow base 112 3 v (np a s) (pcs a s (np a s))) : ∃ A c, v = .slice A (np a s) c ∧ Pts w w.heap.size A (np a s) c a s ∧ ∀ g o, A = some ⟨g, o, none⟩ → base ≤ g := by
  rcases h.2 with ⟨rfl, h0⟩ | ⟨g, cap, cur, rfl, hg, hh, hn, hm, hs, ht⟩
  · exact ⟨none, 0, by rw [h0], ⟨rfl, by omega, by decide, fun h => by omega⟩, fun g o e => by cases e⟩
  · refine ⟨_, cap, rfl, ⟨rfl, hn, hm, fun h0 => ⟨g, rfl, (Array.getElem?_eq_some_iff.1 hh).1, fun j hj => ?_⟩⟩, fun g' o e => by cases e; exact hg⟩
    have hget : ∀ i, i < 3 → w.cell? ⟨g, j * 3 + i, none⟩ = (pc a s j)[i]? := fun i hi => by
      rw [cell_in hh]
      have : cur.toList[j * 3 + i]? = (pcs a s (np a s))[j * 3 + i]? := by
        conv => rhs; rw [← ht]
        rw [List.getElem?_take, if_pos (by omega)]
      rw [← Array.getElem?_toList, this, pcs_get hj hi]
    exact ⟨hget 0 (by omega), hget 1 (by omega), hget 2 (by omega)⟩
def GivesPts (w : World) (a s : Nat) (e : Ending) (w' : World) : Prop := ∃ A c, e = .returned (.tuple #[.slice A (np a s) c, .int .i64 0]) ∧ Pts w' w'.heap.size A (np a s) c a s ∧ Below w.heap.size w w' ∧ ∀ g o, A = some ⟨g, o, none⟩ → w.heap.size ≤ g
theorem parts_no (x y : Int) (w : World) (h : x < 0 ∨ y < 0 ∨ 0 < y ∧ (9728 < x ∨ 9728 - x < y)) (hx : -9223372036854775808 ≤ x ∧ x ≤ 9223372036854775807) (hy : -9223372036854775808 ≤ y ∧ y ≤ 9223372036854775807) : Calls Tryz.prog 51 #[.int .i64 x, .int .i64 y] w (Refuses w 4) := by
  by_cases h1 : x < 0
  · clear h
    go_enter Tryz.func51, Tryz.ntmps51
    go_wp2_with fail
    go_ret2
    exact ⟨rfl, rfl⟩
  · by_cases h2 : y < 0
    · clear h
      go_enter Tryz.func51, Tryz.ntmps51
      go_wp2_with fail
      go_ret2
      exact ⟨rfl, rfl⟩
    · have h3 : 0 < y ∧ 9728 - y < x := by omega
      have h4 : (y == 0) = false := by simp; omega
      have h5 : IntKind.i64.wrap (9728 - y) = 9728 - y := by rw [IntKind.wrap_i64]; omega
      clear h
      go_enter Tryz.func51, Tryz.ntmps51
      go_wp2_with fail
      go_ret2
      exact ⟨rfl, rfl⟩
theorem parts_nil (x : Int) (w : World) (h : 0 ≤ x) : Calls Tryz.prog 51 #[.int .i64 x, .int .i64 0] w fun e w' => e = .returned (.tuple #[.slice none 0 0, .int .i64 0]) ∧ w = w' := by
  go_enter Tryz.func51, Tryz.ntmps51
  go_wp2_with fail
  go_ret2
  exact ⟨rfl, rfl⟩
set_option maxRecDepth 20000 in
set_option maxHeartbeats 1000000 in
theorem parts_some (a s : Nat) (w : World) (hs : 0 < s) (has : a + s ≤ 9728) : Calls Tryz.prog 51 #[.int .i64 a, .int .i64 s] w (GivesPts w a s) := by
  have hs1 : ((s : Int) == 0) = false := by simp; omega
  have HP : ∀ k, Hid (pcs a s (k + 1) = pcs a s k ++ pc a s k) := fun k => pcs_succ a s k
  have HN : Hid (np a s = (a + s - 1) / 128 + 1 - a / 128) := by show _ = _; unfold np; rw [if_neg (by omega)]
  have HNL := Lib.hid (np_le (.inl has))
  obtain ⟨q, hq⟩ : ∃ q, a / 128 = q := ⟨_, rfl⟩
  have hqa : 128 * q ≤ a ∧ a < 128 * q + 128 := by omega
  have HPC : ∀ k, Hid (pc a s k = [.int .i64 ((q : Int) + k), .int .i64 (max ((a : Int) - ((q : Int) + k) * 128) 0), .int .i64 (min ((a : Int) + s - ((q : Int) + k) * 128) 128)]) := fun k => by
    show _ = _
    unfold pc pf pt pb
    rw [hq]
    have e1 : ((q + k : Nat) : Int) = (q : Int) + k := by omega
    rw [e1, Int.mul_comm 128]
  have HBL : Hid (blocks ((a : Int) + s) = (q : Int) + np a s) := by
    show _ = _
    have := HN.out
    unfold blocks
    rw [if_neg (by omega)]
    omega
  have hqd : (a : Int) / 128 = q := by omega
  obtain ⟨M, hM⟩ : ∃ M, np a s = M := ⟨_, rfl⟩
  rw [hM] at HBL HN HNL
  have hM1 := HNL.out
  have HMN := Lib.hid hM
  have hq76 : q ≤ 76 := by omega
  clear hM HNL HN hq
  go_enter Tryz.func51, Tryz.ntmps51
  go_wp2_with fail
  go_loopw [8, 9] (fun v i wr => ∃ k : Nat, ∃ v0 : Value, k ≤ M ∧ i = .int .i64 ((q : Int) + k) ∧ v = v0 ∧ Hid (wr.ownsRow w.heap.size 112 3 v0 k (pcs a s k)) ∧ Hid (Below w.heap.size w wr)) (fun _ i _ => q + M - (intOf i).toNat)
  case atStart => exact ⟨0, _, Nat.zero_le _, by simp, rfl, World.ownsRow_nil _ _ _ _, Below.refl _ _⟩
  case round =>
    obtain ⟨k, v, hk, rfl, rfl, HR, HB⟩ := hrel
    go_wp2_with fail
    refine (blocks_any ((a : Int) + s) _ (by omega)).mono ?_
    rintro e w1 ⟨rfl, rfl⟩
    rw [HBL.out]
    by_cases hlt : k < M
    · have hlt1 : decide ((q : Int) + k < (q : Int) + M) = true := by simp; omega
      have HF : Hid (max ((a : Int) - ((q : Int) + k) * 128) 0 = if ((a : Int) - ((q : Int) + k) * 128) < 0 then 0 else ((a : Int) - ((q : Int) + k) * 128)) := by show _ = _; split <;> omega
      have HT : Hid (min ((a : Int) + s - ((q : Int) + k) * 128) 128 = if 128 < ((a : Int) + s - ((q : Int) + k) * 128) then 128 else ((a : Int) + s - ((q : Int) + k) * 128)) := by show _ = _; split <;> omega
      have HPK := Lib.hid (HPC k).out
      rw [HF.out, HT.out] at HPK
      clear HF HT
      by_cases c1 : ((a : Int) - ((q : Int) + k) * 128) < 0
      · rw [if_pos c1] at HPK
        by_cases c2 : 128 < ((a : Int) + s - ((q : Int) + k) * 128)
        · rw [if_pos c2] at HPK
          obtain ⟨v', w', hr, ho, hb⟩ := appP_run ((q : Int) + k) 0 128 HR.out (by omega) HB.out.size
          rw [← HPK.out, ← (HP k).out] at ho
          have HR2 := Lib.hid hr
          have HO := Lib.hid ho
          have HB2 := Lib.hid (HB.out.trans hb)
          clear hr ho hb
          go_wp2_with (at_builtin; refine Lib.wpList_append_run _ rfl _ _ _ _ rfl _ _ rfl rfl _ _ HR2.out ?_)
          go_roundw
          case rel => exact ⟨k + 1, v', by omega, by go_num, rfl, HO, HB2⟩
          case measure => simp [intOf]; omega
        · rw [if_neg c2] at HPK
          obtain ⟨v', w', hr, ho, hb⟩ := appP_run ((q : Int) + k) 0 ((a : Int) + s - ((q : Int) + k) * 128) HR.out (by omega) HB.out.size
          rw [← HPK.out, ← (HP k).out] at ho
          have HR2 := Lib.hid hr
          have HO := Lib.hid ho
          have HB2 := Lib.hid (HB.out.trans hb)
          clear hr ho hb
          go_wp2_with (at_builtin; refine Lib.wpList_append_run _ rfl _ _ _ _ rfl _ _ rfl rfl _ _ HR2.out ?_)
          go_roundw
          case rel => exact ⟨k + 1, v', by omega, by go_num, rfl, HO, HB2⟩
          case measure => simp [intOf]; omega
      · rw [if_neg c1] at HPK
        by_cases c2 : 128 < ((a : Int) + s - ((q : Int) + k) * 128)
        · rw [if_pos c2] at HPK
          obtain ⟨v', w', hr, ho, hb⟩ := appP_run ((q : Int) + k) ((a : Int) - ((q : Int) + k) * 128) 128 HR.out (by omega) HB.out.size
          rw [← HPK.out, ← (HP k).out] at ho
          have HR2 := Lib.hid hr
          have HO := Lib.hid ho
          have HB2 := Lib.hid (HB.out.trans hb)
          clear hr ho hb
          go_wp2_with (at_builtin; refine Lib.wpList_append_run _ rfl _ _ _ _ rfl _ _ rfl rfl _ _ HR2.out ?_)
          go_roundw
          case rel => exact ⟨k + 1, v', by omega, by go_num, rfl, HO, HB2⟩
          case measure => simp [intOf]; omega
        · rw [if_neg c2] at HPK
          obtain ⟨v', w', hr, ho, hb⟩ := appP_run ((q : Int) + k) ((a : Int) - ((q : Int) + k) * 128) ((a : Int) + s - ((q : Int) + k) * 128) HR.out (by omega) HB.out.size
          rw [← HPK.out, ← (HP k).out] at ho
          have HR2 := Lib.hid hr
          have HO := Lib.hid ho
          have HB2 := Lib.hid (HB.out.trans hb)
          clear hr ho hb
          go_wp2_with (at_builtin; refine Lib.wpList_append_run _ rfl _ _ _ _ rfl _ _ rfl rfl _ _ HR2.out ?_)
          go_roundw
          case rel => exact ⟨k + 1, v', by omega, by go_num, rfl, HO, HB2⟩
          case measure => simp [intOf]; omega
    · obtain rfl : k = M := by omega
      have hlt1 : decide ((q : Int) + k < (q : Int) + k) = false := by simp
      go_wp2_with fail
      go_ret2
      have ho := HR.out
      have hM := HMN.out
      subst hM
      obtain ⟨A, c, rfl, hP, hfr⟩ := own_pts ho
      exact ⟨A, c, rfl, hP, HB.out, hfr⟩
end Go.Proofs.YtijbgdihnjnllaaGreat.T
