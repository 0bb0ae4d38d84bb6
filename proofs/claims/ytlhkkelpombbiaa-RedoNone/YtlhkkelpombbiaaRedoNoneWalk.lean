/- RedoNone, walked. -/
import Derived.Test.YtlhkkelpombbiaaCheck
namespace Go.Proofs.Ytlhkkelpombbiaa.redoNone
open Go.RowKit
set_option linter.unusedVariables false

theorem fbts_bts {w : World} {B n c : Nat} {A : Option Addr} {l : List UInt8} (h : F.Bts w B A n c l) : Bts w (fun q => q < B) A n c l :=
  ⟨h.len, h.cap, h.lim, fun hn => by
    obtain ⟨b, off, e, hb, hc⟩ := h.at_ hn
    refine ⟨b, off, e, hb, fun j v hj => ?_⟩
    have hj' : j < l.length := by have := (List.getElem?_eq_some_iff.1 hj).1; rwa [bc_len] at this
    rw [bc_get hj'] at hj
    cases hj
    exact hc j (by rw [← h.len]; exact hj')⟩
theorem hd_first (l : List Int) : (hd l)[0]? = some 82 := rfl
theorem zeros_none : isHd zeros = none := by
  unfold isHd
  rw [if_neg]
  intro hk
  have h := congrArg (fun l => l[0]?) hk.2.2.2
  simp only [hd_first] at h
  cases h
theorem zeros_at {k : Nat} (h : k < 64) : (newS 64).now[k]? = some zeros := by
  show (List.replicate 64 zeros)[k]? = _
  rw [List.getElem?_replicate, if_pos h]
theorem new_left : ∀ ns, isHd ((newS 64).now[1]?.getD []) = some ns → ns = [] := by
  intro ns h
  rw [zeros_at (by omega), Option.getD_some, zeros_none] at h
  cases h
theorem new_recover : (newS 64).recover 64 = (2, newS 64) := by
  unfold DS.recover
  rw [zeros_at (by omega), Option.getD_some, zeros_none]
  rfl
theorem new_commit {ws : List Wr} (h : ws ≠ []) : (newS 64).commit 64 ws = (if fit 64 ws then 2 else 1, newS 64) := by
  unfold DS.commit
  rw [zeros_at (by omega), Option.getD_some, zeros_none, if_neg h]
  cases fit 64 ws <;> rfl
def fused0 : DS := (newS 64).fuse 0
theorem flush_fused : fused0.flush = (11, fused0.spend) := rfl
theorem fused_down : fused0.spend.down = true := rfl
theorem rec_fused : fused0.spend.recover 64 = (11, fused0.spend) := by
  unfold DS.recover
  rw [fused_down]
  rfl
/-- The block of the write that the law makes. -/
def XB (w : World) (g : Nat) (x : Int) (v : Value) : Prop := w.heap[g]? = some (.cells #[.int .i64 x, v] 56 (0, 0))
theorem XB.lt {w : World} {g : Nat} {x : Int} {v : Value} (h : XB w g x v) : g < w.heap.size := (Array.getElem?_eq_some_iff.1 h).1
theorem XB.below {w w' : World} {g : Nat} {x : Int} {v : Value} (h : XB w g x v) (hb : Below w.heap.size w w') : XB w' g x v := (hb.block g h.lt).trans h
theorem XB.chg {w w' : World} {g : Nat} {x : Int} {v : Value} {O : List Nat} (h : XB w g x v) (hc : Chg O w w') (hg : g ∉ O) : XB w' g x v := (hc.block g h.lt hg).trans h
/-- Where the law is: its drive, its write, its bytes. -/
structure At (W w : World) (d : Nat) (O : List Nat) (s : DS) (g : Nat) (x : Int) (A : Option Addr) (n c : Nat) (b : List UInt8) : Prop where
  sit : Sit W w d O 64 s
  xb : XB w g x (.slice A n c)
  out : g ∉ O
  bts : Bts w (fun q => q < W.heap.size) A n c b
section
variable {W w w' : World} {d g n c : Nat} {O : List Nat} {s s' : DS} {x : Int} {A : Option Addr} {b : List UInt8}
theorem At.below (h : At W w d O s g x A n c b) (hb : Below w.heap.size w w') : At W w' d O s g x A n c b :=
  ⟨h.sit.below hb, h.xb.below hb, h.out, h.bts.keep fun q hq => hb.block q (Nat.lt_of_lt_of_le hq h.sit.bel.size)⟩
theorem At.did (h : At W w d O s g x A n c b) (k : Did w d O 64 s' w') : ∃ O', At W w' d O' s' g x A n c b := by
  obtain ⟨O', h1, h2, h3⟩ := h.sit.did k
  exact ⟨O', h1, h.xb.chg h2 h.out, not_after h3 h.out h.xb.lt, h.bts.keep fun q hq => h2.block q (Nat.lt_of_lt_of_le hq h.sit.bel.size) fun e => by have := h.sit.fresh q e; omega⟩
theorem At.c0 (h : At W w d O s g x A n c b) : w.cell? ⟨g, 0, none⟩ = some (.int .i64 x) := cell_of h.xb 0
theorem At.c1 (h : At W w d O s g x A n c b) : w.cell? ⟨g, 1, none⟩ = some (.slice A n c) := cell_of h.xb 1
theorem At.one (h : At W w d O s g x A n c b) : Wrs (w.alloc (.cells #[.int .i64 x, .slice A n c] 56)) (fun q => q < W.heap.size ∨ q = w.heap.size) (some ⟨w.heap.size, 0, none⟩) 1 1 [(x, b)] :=
  wrs_1 x h.bts fun q hq => Nat.lt_of_lt_of_le hq h.sit.bel.size
theorem At.free (h : At W w d O s g x A n c b) (o : Obj) : Free (w.alloc o) O (fun q => q < W.heap.size ∨ q = w.heap.size) := by
  rintro q (hq | rfl)
  · exact ⟨by simp; have := h.sit.bel.size; omega, fun e => by have := h.sit.fresh q e; omega⟩
  · exact ⟨by simp, fun e => by have := h.sit.drv.lt _ e; omega⟩
theorem below_new (w : World) (o : Obj) : Below w.heap.size w (w.alloc o) := (Below.refl _ w).alloc (Nat.le_refl _) o
end
set_option maxRecDepth 20000 in
set_option maxHeartbeats 4000000 in
theorem walk (W : World) (A : Option Addr) (n c : Nat) (b : List UInt8) (hB : F.Bts W W.heap.size A n c b) (x : Int) (hx : -9223372036854775808 ≤ x ∧ x ≤ 9223372036854775807) :
    Calls Try.prog 5 #[.slice A n c, .int .i64 x] W fun e W' => e = .returned (.bool true) ∧ Below W.heap.size W W' := by
  have HB := Lib.hid (fbts_bts hB)
  clear hB hx
  cases hf : fit 64 [(x, b)] with
  | true =>
    have HC : Hid (chkE 64 [(x, b)] = 0) := by show _ = _; simp [chkE, hf]
    have HCM : Hid ((newS 64).commit 64 [(x, b)] = (2, newS 64)) := by show _ = _; rw [new_commit (by simp), hf]; rfl
    clear hf
    go_enter Try.func5, Try.ntmps5
    go_wp2_with fail
    refine (new_any 64 W (by omega) (by omega)).mono ?_
    rintro e w1 ⟨d, O, rfl, hd1, hf1, hb1⟩
    have HA : Hid (At W (w1.alloc (.cells #[.int .i64 x, .slice A n c] 56)) d O (newS 64) w1.heap.size x A n c b) :=
      ⟨Sit.below ⟨hd1, hf1, hb1⟩ (below_new _ _), heap_alloc_new _ _, fun e => by have := hd1.lt _ e; omega, HB.out.keep fun q hq => by rw [Below.heap_alloc _ _ _ (Nat.lt_of_lt_of_le hq hb1.size)]; exact hb1.block q hq⟩
    clear hd1 hf1 hb1
    go_wp2_with fail
    have HCK := Lib.hid (check_any 64 HA.out.one (fun q hq => (HA.out.free _ q hq).1) (by omega) (by omega))
    rw [HC.out] at HCK
    simp only [World.size_alloc] at HCK
    refine HCK.out.mono ?_
    rintro e w2 ⟨rfl, hb2⟩
    have HA2 := Lib.hid (HA.out.below ((below_new _ _).trans (hb2.mono (by simp))))
    generalize w1.heap.size = g at *
    clear hb2 HCK HA
    have hc0 := HA2.out.c0
    have hc1 := HA2.out.c1
    go_wp2_with fail
    refine (commit_any (HA2.out.sit.below (below_new _ _)).drv HA2.out.one (HA2.out.free _) (by omega) (fun _ => by simp [newS]) (fun _ => new_left)).mono ?_
    rintro e w3 ⟨rfl, hd3⟩
    rw [HCM.out] at hd3 ⊢
    obtain ⟨O3, h3⟩ := (HA2.out.below (below_new _ _)).did hd3
    have HA3 := Lib.hid h3
    clear h3 hd3 hc0 hc1
    go_wp2_with fail
    refine (recover_any HA3.out.sit.drv (fun _ => by simp [newS])).mono ?_
    rintro e w4 ⟨rfl, hd4⟩
    rw [new_recover] at hd4 ⊢
    obtain ⟨O4, h4⟩ := HA3.out.did hd4
    have HA4 := Lib.hid h4
    clear h4 hd4
    go_wp2_with fail
    refine (fuseD 0 HA4.out.sit.drv (by omega) (by omega)).mono ?_
    rintro e w5 ⟨rfl, hd5⟩
    obtain ⟨O5, h5⟩ := HA4.out.did hd5
    have HA5 : Hid (At W w5 d O5 fused0 g x A n c b) := h5
    clear h5 hd5
    go_wp2_with fail
    refine (flush_any HA5.out.sit.drv).mono ?_
    rintro e w6 ⟨rfl, hd6⟩
    rw [flush_fused] at hd6 ⊢
    obtain ⟨O6, h6⟩ := HA5.out.did hd6
    have HA6 := Lib.hid h6
    clear h6 hd6
    go_wp2_with fail
    refine (recover_any HA6.out.sit.drv (fun _ => by rw [spend_since]; simp [fused0, DS.fuse, newS])).mono ?_
    rintro e w7 ⟨rfl, hd7⟩
    rw [rec_fused] at hd7 ⊢
    obtain ⟨O7, h7⟩ := HA6.out.did hd7
    have HA7 := Lib.hid h7
    clear h7 hd7
    go_wp2_with fail
    refine (awake_any w7).mono ?_
    rintro e w8 ⟨rfl, hb8⟩
    have HA8 := Lib.hid (HA7.out.below hb8)
    have hc0 := HA8.out.c0
    have hc1 := HA8.out.c1
    clear hb8
    go_wp2_with fail
    refine (commit_nil _).mono ?_
    rintro e w9 ⟨rfl, rfl⟩
    go_wp2_with fail
    refine (commit_nil _).mono ?_
    rintro e w9 ⟨rfl, rfl⟩
    go_wp2_with fail
    refine (recover_nil _).mono ?_
    rintro e w9 ⟨rfl, rfl⟩
    go_wp2_with fail
    refine (commit_none (p := none) d _).mono ?_
    rintro e w9 ⟨rfl, rfl⟩
    go_wp2_with fail
    go_ret
    exact ⟨rfl, HA8.out.sit.bel.trans ((below_new _ _).mono HA8.out.sit.bel.size)⟩
  | false =>
    have HC : Hid (chkE 64 [(x, b)] = 1) := by show _ = _; simp [chkE, hf]
    have HCM : Hid ((newS 64).commit 64 [(x, b)] = (1, newS 64)) := by show _ = _; rw [new_commit (by simp), hf]; rfl
    clear hf
    go_enter Try.func5, Try.ntmps5
    go_wp2_with fail
    refine (new_any 64 W (by omega) (by omega)).mono ?_
    rintro e w1 ⟨d, O, rfl, hd1, hf1, hb1⟩
    have HA : Hid (At W (w1.alloc (.cells #[.int .i64 x, .slice A n c] 56)) d O (newS 64) w1.heap.size x A n c b) :=
      ⟨Sit.below ⟨hd1, hf1, hb1⟩ (below_new _ _), heap_alloc_new _ _, fun e => by have := hd1.lt _ e; omega, HB.out.keep fun q hq => by rw [Below.heap_alloc _ _ _ (Nat.lt_of_lt_of_le hq hb1.size)]; exact hb1.block q hq⟩
    clear hd1 hf1 hb1
    go_wp2_with fail
    have HCK := Lib.hid (check_any 64 HA.out.one (fun q hq => (HA.out.free _ q hq).1) (by omega) (by omega))
    rw [HC.out] at HCK
    simp only [World.size_alloc] at HCK
    refine HCK.out.mono ?_
    rintro e w2 ⟨rfl, hb2⟩
    have HA2 := Lib.hid (HA.out.below ((below_new _ _).trans (hb2.mono (by simp))))
    generalize w1.heap.size = g at *
    clear hb2 HCK HA
    have hc0 := HA2.out.c0
    have hc1 := HA2.out.c1
    go_wp2_with fail
    refine (commit_any (HA2.out.sit.below (below_new _ _)).drv HA2.out.one (HA2.out.free _) (by omega) (fun _ => by simp [newS]) (fun _ => new_left)).mono ?_
    rintro e w3 ⟨rfl, hd3⟩
    rw [HCM.out] at hd3 ⊢
    obtain ⟨O3, h3⟩ := (HA2.out.below (below_new _ _)).did hd3
    have HA3 := Lib.hid h3
    clear h3 hd3 hc0 hc1
    go_wp2_with fail
    refine (recover_any HA3.out.sit.drv (fun _ => by simp [newS])).mono ?_
    rintro e w4 ⟨rfl, hd4⟩
    rw [new_recover] at hd4 ⊢
    obtain ⟨O4, h4⟩ := HA3.out.did hd4
    have HA4 := Lib.hid h4
    clear h4 hd4
    go_wp2_with fail
    refine (fuseD 0 HA4.out.sit.drv (by omega) (by omega)).mono ?_
    rintro e w5 ⟨rfl, hd5⟩
    obtain ⟨O5, h5⟩ := HA4.out.did hd5
    have HA5 : Hid (At W w5 d O5 fused0 g x A n c b) := h5
    clear h5 hd5
    go_wp2_with fail
    refine (flush_any HA5.out.sit.drv).mono ?_
    rintro e w6 ⟨rfl, hd6⟩
    rw [flush_fused] at hd6 ⊢
    obtain ⟨O6, h6⟩ := HA5.out.did hd6
    have HA6 := Lib.hid h6
    clear h6 hd6
    go_wp2_with fail
    refine (recover_any HA6.out.sit.drv (fun _ => by rw [spend_since]; simp [fused0, DS.fuse, newS])).mono ?_
    rintro e w7 ⟨rfl, hd7⟩
    rw [rec_fused] at hd7 ⊢
    obtain ⟨O7, h7⟩ := HA6.out.did hd7
    have HA7 := Lib.hid h7
    clear h7 hd7
    go_wp2_with fail
    refine (awake_any w7).mono ?_
    rintro e w8 ⟨rfl, hb8⟩
    have HA8 := Lib.hid (HA7.out.below hb8)
    have hc0 := HA8.out.c0
    have hc1 := HA8.out.c1
    clear hb8
    go_wp2_with fail
    refine (commit_nil _).mono ?_
    rintro e w9 ⟨rfl, rfl⟩
    go_wp2_with fail
    refine (commit_nil _).mono ?_
    rintro e w9 ⟨rfl, rfl⟩
    go_wp2_with fail
    refine (recover_nil _).mono ?_
    rintro e w9 ⟨rfl, rfl⟩
    go_wp2_with fail
    refine (commit_none (p := none) d _).mono ?_
    rintro e w9 ⟨rfl, rfl⟩
    go_wp2_with fail
    go_ret
    exact ⟨rfl, HA8.out.sit.bel.trans ((below_new _ _).mono HA8.out.sit.bel.size)⟩
end Go.Proofs.Ytlhkkelpombbiaa.redoNone
