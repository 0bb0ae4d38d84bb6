/- What is refused; mathematics of the laws. -/
import Derived.Test.YtijbgdihnjnllaaGreatVSecs
import Derived.Test.YtijbgdihnjnllaaGreatSNil
import Derived.Test.YtijbgdihnjnllaaGreatSLaw
namespace Go.Proofs.YtijbgdihnjnllaaGreat.V
open Go.RowKit
set_option linter.unusedVariables false
set_option maxRecDepth 20000
section
variable {w0 w : World} {p d N q nn : Nat} {O : List Nat} {s : DS} {X : Secs2} {m : List Wr} {y : D.Nn}
theorem around_range (h : Sto w0 w p d O N s X q m) {n : Int} (hn : n < 0 ∨ 31 < n) : Calls Tryz.prog 62 #[.pointer (some ⟨p, 0, none⟩), .int .i64 n] w fun e w' => e = .returned (.tuple #[.slice none 0 0, .int .i64 4]) ∧ w = w' := by
  have H := Lib.hid h
  clear h
  by_cases h0 : n < 0
  · clear hn
    go_enter Tryz.func62, Tryz.ntmps62
    go_wp2_with fail
    refine (barred_ok H.out.st).mono ?_
    rintro e w1 ⟨rfl, rfl⟩
    go_wp2_with fail
    go_ret2
    exact ⟨rfl, rfl⟩
  · have h1 : 32 ≤ n := by omega
    clear hn
    go_enter Tryz.func62, Tryz.ntmps62
    go_wp2_with fail
    refine (barred_ok H.out.st).mono ?_
    rintro e w1 ⟨rfl, rfl⟩
    go_wp2_with fail
    go_ret2
    exact ⟨rfl, rfl⟩
def ErrS (w : World) (er : Int) (e : Ending) (w' : World) : Prop := e = .returned (.tuple #[.slice none 0 0, .int .i64 er]) ∧ Below w.heap.size w w'
def Err1 (w : World) (er : Int) (e : Ending) (w' : World) : Prop := e = .returned (.int .i64 er) ∧ Below w.heap.size w w'
variable {A : Option Addr} {n er : Int}
/-- Read, out of range. -/
theorem read_range (ho : Calls Tryz.prog 44 #[.pointer A, .int .i64 n] w (OpenR w p nn y)) {a z : Int} (h : a < 0 ∨ z < 0 ∨ 9728 < z) : Calls Tryz.prog 20 #[.pointer A, .int .i64 n, .int .i64 a, .int .i64 z] w (ErrS w 4) := by
  have HO := Lib.hid ho
  clear ho
  by_cases h1 : a < 0
  · clear h
    go_enter Tryz.func20, Tryz.ntmps20
    go_wp2_with fail
    refine HO.out.mono ?_
    rintro e w1 ⟨bf, rfl, _, _, hb⟩
    have HB := Lib.hid hb
    clear hb
    go_wp2_with fail
    go_ret2
    exact ⟨rfl, HB.out⟩
  · by_cases h2 : z < 0
    · clear h
      go_enter Tryz.func20, Tryz.ntmps20
      go_wp2_with fail
      refine HO.out.mono ?_
      rintro e w1 ⟨bf, rfl, _, _, hb⟩
      have HB := Lib.hid hb
      clear hb
      go_wp2_with fail
      go_ret2
      exact ⟨rfl, HB.out⟩
    · have h3 : 9728 < z := by omega
      clear h
      go_enter Tryz.func20, Tryz.ntmps20
      go_wp2_with fail
      refine HO.out.mono ?_
      rintro e w1 ⟨bf, rfl, _, _, hb⟩
      have HB := Lib.hid hb
      clear hb
      go_wp2_with fail
      go_ret2
      exact ⟨rfl, HB.out⟩
/-- Read, behind the end. -/
theorem read_end (ho : Calls Tryz.prog 44 #[.pointer A, .int .i64 n] w (OpenR w p nn y)) {a z : Int} (ha : (y.s : Int) ≤ a) (hz : 0 ≤ z ∧ z ≤ 9728) : Calls Tryz.prog 20 #[.pointer A, .int .i64 n, .int .i64 a, .int .i64 z] w (ErrS w 0) := by
  have HO := Lib.hid ho
  have h1 : ¬ a < 0 := by omega
  have h2 : ¬ z < 0 := by omega
  have h3 : ¬ 9728 < z := by omega
  clear ho hz
  go_enter Tryz.func20, Tryz.ntmps20
  go_wp2_with fail
  refine HO.out.mono ?_
  rintro e w1 ⟨bf, rfl, hf, _, hb⟩
  have HB := Lib.hid hb
  have c5 := hf.c5
  clear hb hf
  go_wp2_with fail
  go_ret2
  exact ⟨rfl, HB.out⟩
/-- Read, no byte. -/
theorem read_none (ho : Calls Tryz.prog 44 #[.pointer A, .int .i64 n] w (OpenR w p nn y)) {a : Int} (ha : 0 ≤ a ∧ a < (y.s : Int)) (hy : y.s ≤ 9728) : Calls Tryz.prog 20 #[.pointer A, .int .i64 n, .int .i64 a, .int .i64 0] w (ErrS w 0) := by
  have HO := Lib.hid ho
  have HA := Lib.hid ha.1
  have h1 : ¬ a < 0 := by omega
  have h2 : ¬ (y.s : Int) ≤ a := by omega
  have hw1 : IntKind.i64.wrap ((y.s : Int) - a) = (y.s : Int) - a := by rw [IntKind.wrap_i64]; omega
  have hmn : min (0 : Int) ((y.s : Int) - a) = 0 := by omega
  clear ho ha
  go_enter Tryz.func20, Tryz.ntmps20
  go_wp2_with fail
  refine HO.out.mono ?_
  rintro e w1 ⟨bf, rfl, hf, _, hb⟩
  have HB := Lib.hid hb
  have c5 := hf.c5
  clear hb hf
  go_wp2_with fail
  refine (T.parts_nil a _ HA.out).mono ?_
  rintro e w2 ⟨rfl, rfl⟩
  go_wp2_with fail
  refine wp_loop_rounds 1 ?_
  rw [rounds_succ]
  go_wp2_with fail
  go_ret2
  exact ⟨rfl, HB.out⟩
theorem trunc_range (ho : Calls Tryz.prog 44 #[.pointer A, .int .i64 n] w (OpenR w p nn y)) {z : Int} (h : z < 0 ∨ 9728 < z) : Calls Tryz.prog 24 #[.pointer A, .int .i64 n, .int .i64 z] w (Err1 w 4) := by
  have HO := Lib.hid ho
  clear ho
  by_cases h1 : z < 0
  · clear h
    go_enter Tryz.func24, Tryz.ntmps24
    go_wp2_with fail
    refine HO.out.mono ?_
    rintro e w1 ⟨bf, rfl, _, _, hb⟩
    have HB := Lib.hid hb
    clear hb
    go_wp2_with fail
    go_ret
    exact ⟨rfl, HB.out⟩
  · have h3 : 9728 < z := by omega
    clear h
    go_enter Tryz.func24, Tryz.ntmps24
    go_wp2_with fail
    refine HO.out.mono ?_
    rintro e w1 ⟨bf, rfl, _, _, hb⟩
    have HB := Lib.hid hb
    clear hb
    go_wp2_with fail
    go_ret
    exact ⟨rfl, HB.out⟩
theorem write_range (ho : Calls Tryz.prog 44 #[.pointer A, .int .i64 n] w (OpenR w p nn y)) {a : Int} (h1 : a < 0) (D : Option Addr) (l c : Nat) : Calls Tryz.prog 16 #[.pointer A, .int .i64 n, .int .i64 a, .slice D l c] w (Err1 w 4) := by
  have HO := Lib.hid ho
  clear ho
  go_enter Tryz.func16, Tryz.ntmps16
  go_wp2_with fail
  refine HO.out.mono ?_
  rintro e w1 ⟨bf, rfl, _, _, hb⟩
  have HB := Lib.hid hb
  clear hb
  go_wp2_with fail
  go_ret
  exact ⟨rfl, HB.out⟩
theorem write_none (ho : Calls Tryz.prog 44 #[.pointer A, .int .i64 n] w (OpenR w p nn y)) {a : Int} (ha : 0 ≤ a) (D : Option Addr) (c : Nat) : Calls Tryz.prog 16 #[.pointer A, .int .i64 n, .int .i64 a, .slice D 0 c] w (Err1 w 0) := by
  have HO := Lib.hid ho
  have h1 : ¬ a < 0 := by omega
  clear ho ha
  go_enter Tryz.func16, Tryz.ntmps16
  go_wp2_with fail
  refine HO.out.mono ?_
  rintro e w1 ⟨bf, rfl, _, _, hb⟩
  have HB := Lib.hid hb
  clear hb
  go_wp2_with fail
  go_ret
  exact ⟨rfl, HB.out⟩
theorem write_large (ho : Calls Tryz.prog 44 #[.pointer A, .int .i64 n] w (OpenR w p nn y)) {a : Int} {l : Nat} (ha : 0 ≤ a) (hl : 0 < l) (hl2 : l ≤ 9223372036854775807) (h : 9728 - (l : Int) < a) (D : Option Addr) (c : Nat) : Calls Tryz.prog 16 #[.pointer A, .int .i64 n, .int .i64 a, .slice D l c] w (Err1 w 17) := by
  have HO := Lib.hid ho
  have h1 : ¬ a < 0 := by omega
  have hg2 : ((l : Int) == 0) = false := by rw [beq_eq_false_iff_ne]; omega
  have hw1 : IntKind.i64.wrap (9728 - (l : Int)) = 9728 - (l : Int) := by rw [IntKind.wrap_i64]; omega
  clear ho ha hl hl2
  go_enter Tryz.func16, Tryz.ntmps16
  go_wp2_with fail
  refine HO.out.mono ?_
  rintro e w1 ⟨bf, rfl, _, _, hb⟩
  have HB := Lib.hid hb
  clear hb
  go_wp2_with fail
  go_ret
  exact ⟨rfl, HB.out⟩
end
end Go.Proofs.YtijbgdihnjnllaaGreat.V
namespace Go.Proofs.YtijbgdihnjnllaaGreat.V
open Go.RowKit
set_option linter.unusedVariables false
set_option maxRecDepth 20000

theorem count_len (l : List UInt8) : ∀ (k a : Nat), K.count l a k = ((List.range' a k).filter fun n => K.bt l n).length
  | 0, a => rfl
  | k + 1, a => by
    rw [K.count, count_len l k (a + 1), List.range'_succ, List.filter_cons]
    by_cases h : K.bt l a = true
    · rw [if_pos h, if_pos h, List.length_cons]; omega
    · rw [if_neg h, if_neg h]; omega
abbrev new1 (g : Nat) : D.Nn := nn 1 g
def nzn (f : Nat → Nat) : Nat := (nzi f).length
/-- Others' sectors, as a list. -/
def GL (gs : List Nat) : Nat → Prop := fun n => n ∈ gs
section
variable {w0 w : World} {p d N q bf nn : Nat} {O : List Nat} {s : DS} {X : Secs2} {m : List Wr} {gs : List Nat} {I : Img} {y : D.Nn} {f : Nat → Nat} {C : Nat → UInt8} {low : List Int} {Tx : List Nat}
theorem nzm_nodup (h : ∀ i j, i < 86 → j < 86 → f i = f j → f i ≠ 0 → i = j) : ((nzi f).map f).Nodup := by
  refine List.pairwise_map.2 (List.Pairwise.imp_of_mem (fun {a b} ha hb hne => ?_) (nzi_nodup f))
  intro e
  obtain ⟨h1, h2⟩ := mem_nzi.1 ha
  exact hne (h a b h1 (mem_nzi.1 hb).1 e h2)
theorem count_mid (h : Mid N (GL gs) I y f) (hg : gs.Nodup) : K.count (I 34) 43 (N - 43) = nzn f + gs.length := by
  have hn : ((nzi f).map f ++ gs).Nodup := by
    rw [List.nodup_append]
    refine ⟨nzm_nodup h.inj, hg, fun a ha b hb e => ?_⟩
    obtain ⟨i, hi, rfl⟩ := List.mem_map.1 ha
    exact h.oth i (mem_nzi.1 hi).1 (mem_nzi.1 hi).2 (by show f i ∈ gs; rw [e]; exact hb)
  have hp : ((List.range' 43 (N - 43)).filter fun n => K.bt (I 34) n).Perm ((nzi f).map f ++ gs) := by
    refine perm_of ((List.nodup_range' (step := 1)).filter _) hn fun n => ?_
    rw [List.mem_filter, List.mem_range', List.mem_append, List.mem_map]
    constructor
    · rintro ⟨⟨i, hi, rfl⟩, hb⟩
      rcases (h.mrk _ (by omega) (by omega)).1 hb with ⟨j, hj, e⟩ | hg
      · exact .inl ⟨j, mem_nzi.2 ⟨hj, by omega⟩, e⟩
      · exact .inr hg
    · rintro (⟨j, hj, e⟩ | hg)
      · have hj := mem_nzi.1 hj
        have := h.rng j hj.1
        exact ⟨⟨n - 43, by omega, by omega⟩, (h.mrk n (by omega) (by omega)).2 (.inl ⟨j, hj.1, e⟩)⟩
      · have := h.grng n hg
        exact ⟨⟨n - 43, by omega, by omega⟩, (h.mrk n this.1 this.2).2 (.inr hg)⟩
  rw [count_len, hp.length_eq, List.length_append, List.length_map]
  rfl
theorem nzn_le {f g : Nat → Nat} {T : List Nat} (h : ∀ i, g i ≠ 0 → f i ≠ 0 ∨ i ∈ T) : nzn g ≤ nzn f + T.length := by
  have := nodup_len (nzi_nodup g) (L := nzi f ++ T) fun i hi => by
    obtain ⟨h1, h2⟩ := mem_nzi.1 hi
    rcases h i h2 with a | a
    · exact List.mem_append_left _ (mem_nzi.2 ⟨h1, a⟩)
    · exact List.mem_append_right _ a
  rw [List.length_append] at this
  exact this
theorem nzn_lt {f g : Nat → Nat} (h : ∀ i, g i ≠ 0 → f i ≠ 0) {k : Nat} (hk : k < 86) (h1 : g k = 0) (h2 : f k ≠ 0) : nzn g < nzn f := by
  have := nodup_len (l := k :: nzi g) (L := nzi f) (List.nodup_cons.2 ⟨fun hm => (mem_nzi.1 hm).2 h1, nzi_nodup g⟩) fun i hi => by
    rcases List.mem_cons.1 hi with rfl | hi
    · exact mem_nzi.2 ⟨hk, h2⟩
    · exact mem_nzi.2 ⟨(mem_nzi.1 hi).1, h i (mem_nzi.1 hi).2⟩
  unfold nzn
  simp at this
  omega
theorem nzn_86 (f : Nat → Nat) : nzn f ≤ 86 := ix_len (nzi_nodup f) fun i hi => (mem_nzi.1 hi).1
theorem nzn_perm {f : Nat → Nat} {T : List Nat} (hT : T.Nodup) (h : ∀ i, (i < 86 ∧ f i ≠ 0) ↔ i ∈ T) : nzn f = T.length :=
  (perm_of (nzi_nodup f) hT fun i => by rw [mem_nzi]; exact h i).length_eq
theorem nzn_zero : nzn (fun _ => 0) = 0 := nzn_perm (T := []) List.nodup_nil fun i => by simp
/-- Too few: all are taken. -/
theorem FNo.full {w' : World} {a n : Nat} (h : FNo w0 w' p d N q bf nn O s X m (GL gs) f low Tx a n) (hg : gs.Nodup) : ∃ fk, Ext f fk ∧ (∀ i, fk i ≠ 0 → f i ≠ 0 ∨ ∃ j, j < T.np a n ∧ i ∈ path (nb a j)) ∧ (∃ j, j < T.np a n ∧ ∃ i ∈ path (nb a j), fk i = 0) ∧ N - 43 = nzn fk + gs.length := by
  obtain ⟨fk, mk, yk, Ck, ho, hf, h1, h2, h3⟩ := h
  refine ⟨fk, h1, h2, h3, ?_⟩
  rw [← count_mid ho.mid hg, K.first_none hf]
theorem FNo.not {w' : World} {a n : Nat} (hg : gs.Nodup) (hx : ∀ j, j < T.np a n → ∀ i ∈ path (nb a j), i ∈ Tx) (hN : nzn f + Tx.length + gs.length < N - 43 ∨ 86 + gs.length < N - 43) : ¬ FNo w0 w' p d N q bf nn O s X m (GL gs) f low Tx a n := fun h => by
  obtain ⟨fk, h1, h2, _, h4⟩ := h.full hg
  have := nzn_le (T := Tx) (f := f) (g := fk) fun i hi => (h2 i hi).imp id fun ⟨j, hj, hi⟩ => hx j hj i hi
  have := nzn_86 fk
  omega
/-- A node that was just given. -/
theorem fl_new {G : Nat → Prop} (hp : ∀ i, i < 6 → y.ptr6 i = 0) (hs : y.s = 0) (hk : y.k = 1) (ho : y.up.ok = true) (hn : D.piece (I (35 + nn / 4)) (nn % 4) = y.img) (hm : ∀ n, 43 ≤ n → n < N → (K.bt (I 34) n = true ↔ G n)) (hg : ∀ n, G n → 43 ≤ n ∧ n < N) (hl : (I 34).length = 128) (h1 : N ≤ 1024) : Fl N G I nn y (fun _ => 0) (fun _ => 0) :=
  ⟨⟨⟨hp, fun _ _ h => absurd rfl h, fun _ _ _ _ _ => rfl⟩, fun _ _ => .inl rfl, fun _ _ _ _ _ h => absurd rfl h, fun n a b => by
      rw [hm n a b]
      exact ⟨.inr, fun h => h.elim (fun ⟨i, _, e⟩ => absurd e (by omega)) id⟩, fun _ _ h => absurd rfl h, hg, hl, h1⟩, ⟨fun _ _ h => absurd rfl h, fun _ _ _ _ _ => rfl⟩, hn, ho, hk, fun _ _ => rfl, fun _ _ h => absurd rfl h, fun _ _ h => absurd rfl h⟩
theorem fl_m1 {ep g : Nat} {gN : 64 ≤ N} (hN : N ≤ 1024) (hs : Std N X ep g root0 (markL 43)) (hg : g < 1073741824) : Fl N (GL []) (view X (m1 N ep g 1)) 2 (new1 (g + 1)) (fun _ => 0) (fun _ => 0) := by
  have e34 : view X (m1 N ep g 1) 34 = markL 43 := by rw [view_m1]; exact hs.mark
  refine fl_new (fun i hi => ?_) rfl rfl (nn_ok (k := 1) (g := g + 1) (.inl rfl) (by omega)) ?_ (fun n a b => ?_) (fun n h => absurd h (by simp [GL])) (by rw [e34]; exact markL_len 43) hN
  · match i, hi with
    | 0, _ => rfl
    | 1, _ => rfl
    | 2, _ => rfl
    | 3, _ => rfl
    | 4, _ => rfl
    | 5, _ => rfl
  · rw [view_m1]; exact piece_ns2 g 1
  · rw [e34, bt_markL (by omega)]
    simp [GL]; omega
/-- With all that would be others among what may be. -/
theorem Bud.all {m : List Wr} {k : Int} (hr : Rising m) (hk : (V.keys m).length ≤ 22) (f : Nat → Nat) : Bud (34 :: k :: V.keys m) [] m f :=
  ⟨fun x hx => .inl (by simp [hx]), by simp; omega, by simp⟩
theorem Bud.len_le {m : List Wr} (h : Bud low Tx m f) (hr : Rising m) : (V.keys m).length ≤ low.length + Tx.length := by
  have := nodup_len (keys_nodup hr) (L := low ++ Tx.map fun i => ((f i : Nat) : Int)) h.sub
  simpa using this
theorem cutF_0 (f : Nat → Nat) : ∀ i, i < 86 → cutF 0 f i = 0 := fun i hi => by
  have hl : ∀ i, ¬ isPx i → cutF 0 f i = 0 := fun i h => by rw [cutF_leaf 0 f h, if_neg (by omega)]
  have hpx : ∀ p, isPx p → (∀ j, j < 8 → cutF 0 f (kid p j) = 0) → cutF 0 f p = 0 := fun p h hk => by
    rw [cutF_px 0 f h, if_neg]
    intro ha
    obtain ⟨j, hj, hn⟩ := any8_iff.1 ha
    exact hn (hk j hj)
  by_cases hp : isPx i
  · refine hpx i hp fun j hj => ?_
    by_cases hq : isPx (kid i j)
    · refine hpx _ hq fun j' hj' => hl _ ?_
      unfold isPx at hp hq ⊢
      unfold kid at hq ⊢
      split at hq
      · omega
      · split at hq
        · rename_i h4 h5
          rw [if_neg h4, if_pos h5, if_neg (by omega), if_neg (by omega)]
          omega
        · omega
    · exact hl _ hq
  · exact hl i hp
end
end Go.Proofs.YtijbgdihnjnllaaGreat.V
