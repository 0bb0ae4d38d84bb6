/- Two files; steps; cuts. -/
import Derived.Test.YtijbgdihnjnllaaGreatVAwake
import Derived.Test.YtijbgdihnjnllaaGreatSNewC
namespace Go.Proofs.YtijbgdihnjnllaaGreat.V
open Go.RowKit
set_option linter.unusedVariables false
set_option maxRecDepth 20000
def gl (f : Nat → Nat) : List Nat := (nzi f).map f
theorem mem_gl {f : Nat → Nat} {n : Nat} : n ∈ gl f ↔ ∃ i, i < 86 ∧ f i ≠ 0 ∧ f i = n := by
  unfold gl
  rw [List.mem_map]
  constructor
  · rintro ⟨i, hi, rfl⟩
    exact ⟨i, (mem_nzi.1 hi).1, (mem_nzi.1 hi).2, rfl⟩
  · rintro ⟨i, h1, h2, rfl⟩
    exact ⟨i, mem_nzi.2 ⟨h1, h2⟩, rfl⟩
theorem gl_len (f : Nat → Nat) : (gl f).length = nzn f := by unfold gl nzn; rw [List.length_map]
theorem gl_zero : gl (fun _ => 0) = [] := by
  unfold gl nzi
  rw [List.filter_eq_nil_iff.2 fun a _ => by simp]
  rfl
/-- Two files, in one sector of nodes. -/
structure Two (na no N : Nat) (V : Img) (y1 : D.Nn) (f1 : Nat → Nat) (C1 : Nat → UInt8) (y2 : D.Nn) (f2 : Nat → Nat) (C2 : Nat → UInt8) : Prop where
  a : Fl N (GL (gl f2)) V na y1 f1 C1
  b : Fl N (GL (gl f1)) V no y2 f2 C2
theorem Two.symm {na no N : Nat} {V : Img} {y1 y2 : D.Nn} {f1 f2 : Nat → Nat} {C1 C2 : Nat → UInt8} (h : Two na no N V y1 f1 C1 y2 f2 C2) : Two no na N V y2 f2 C2 y1 f1 C1 := ⟨h.b, h.a⟩
section
variable {w0 w w1 w2 w' : World} {p d N q bf nn na no : Nat} {O : List Nat} {s : DS} {X : Secs2} {m m' : List Wr} {y y' y1 y1' y2 : D.Nn} {f f' f1 f1' f2 : Nat → Nat} {C C' C1 C1' C2 : Nat → UInt8} {low : List Int} {Tx gs : List Nat} {G : Nat → Prop} {V : Img}
theorem gl_nodup (h : Mid N G V y f) : (gl f).Nodup := nzm_nodup h.inj
/-- A call on one file leaves the other one. -/
theorem Two.aft (h : Two na no N (view X m) y1 f1 C1 y2 f2 C2) (hs : Sto w0 w p d O N s X q m) (hab : na / 4 = no / 4) (hne : na ≠ no) (hn : no < 32) (ha : Aft w0 w p d N q na O s X m (GL (gl f2)) f1 low Tx m' y1' f1' C1' w') :
    Two na no N (view X m') y1' f1' C1' y2 f2 C2 := by
  refine ⟨ha.fl, ?_⟩
  have hk : ∀ i, i < 86 → f2 i ≠ 0 → view X m' (f2 i) = view X m (f2 i) := fun i hi h0 => by
    have hr := h.b.mid.rng i hi
    exact ha.fr (f2 i) (by omega) (by omega) (fun i' hi' h0' e => ha.fl.mid.oth i' hi' h0' (mem_gl.2 ⟨i, hi, h0, e.symm⟩)) (fun i' hi' h0' e => h.a.mid.oth i' hi' h0' (mem_gl.2 ⟨i, hi, h0, e.symm⟩))
  have hm := h.b.mid
  refine ⟨⟨⟨hm.rep.top, fun p hp h0 => ?_, hm.rep.none_⟩, hm.rng, hm.inj, fun n h1 h2 => ?_, fun i hi h0 hg => ?_, fun n hg => ?_, ha.fl.mid.ml, hm.n1⟩, ⟨fun b hb h0 => ?_, h.b.con.no⟩, ?_, h.b.ok, h.b.kind, h.b.zero, h.b.few, h.b.min⟩
  · rw [hk p (px_lt hp) h0]; exact hm.rep.some_ p hp h0
  · rw [ha.fl.mid.mrk n h1 h2]
    constructor
    · rintro (⟨i, hi, e⟩ | hg)
      · exact .inr (mem_gl.2 ⟨i, hi, by omega, e⟩)
      · obtain ⟨i, hi, _, e⟩ := mem_gl.1 hg
        exact .inl ⟨i, hi, e⟩
    · rintro (⟨i, hi, e⟩ | hg)
      · exact .inr (mem_gl.2 ⟨i, hi, by omega, e⟩)
      · obtain ⟨i, hi, _, e⟩ := mem_gl.1 hg
        exact .inl ⟨i, hi, e⟩
  · obtain ⟨i', hi', h0', e⟩ := mem_gl.1 hg
    exact ha.fl.mid.oth i' hi' h0' (mem_gl.2 ⟨i, hi, h0, e.symm⟩)
  · obtain ⟨i', hi', h0', e⟩ := mem_gl.1 hg
    have := ha.fl.mid.rng i' hi'
    omega
  · rw [hk _ (ixb_lt hb) h0]; exact h.b.con.yes b hb h0
  · have h64 := hs.n64
    rw [← hab, ha.nd, D.piece_put_ne (hs.view_len (by omega) (by unfold inLog; omega)) (Nat.mod_lt _ (by omega)) (Nat.mod_lt _ (by omega)) (D.Nn.img_len _) (by omega), hab]
    exact h.b.nod
theorem Two.free (h : Two na no N (view X m) y1 f1 C1 y2 f2 C2) (hs : Sto w0 w p d O N s X q m) : Calls Tryz.prog 26 #[.pointer (some ⟨p, 0, none⟩)] w fun e w' => e = .returned (.int .i64 ((N - 43 - (nzn f1 + nzn f2) : Nat) : Int)) ∧ Below w.heap.size w w' := by
  have := free_any hs
  rw [count_mid h.a.mid (gl_nodup h.b.mid), gl_len] at this
  exact this
/-- What is committed is as it would be. -/
theorem view_commit (h : Sto w0 w p d O N s X q m) : view (lay X (toW m)) [] = view X m := by
  funext n
  by_cases hn : n < N
  · rw [view_nil, lay_getD h.ons.len h.mok hn]
  · rw [view_nil]
    unfold view
    rw [List.getElem?_eq_none (by rw [lay_len, h.ons.len]; omega), List.getElem?_eq_none (by rw [h.ons.len]; omega), find_none_iff.2 fun p hp e => by have := (h.mok.all p hp).2.1; omega]
    rfl
def ComV (w0 w : World) (p d : Nat) (O : List Nat) (N : Nat) (V : Img) (q : Nat) (e : Ending) (w' : World) : Prop := e = .returned (.int .i64 0) ∧ ∃ O' s' X', Sto w0 w' p d O' N s' X' q [] ∧ view X' [] = V ∧ Chg (q :: O) w w' ∧ ∀ b ∈ O', b ∈ O ∨ w.heap.size ≤ b
theorem commit_view (h : Sto w0 w p d O N s X q m) : Calls Tryz.prog 17 #[.pointer (some ⟨p, 0, none⟩)] w (ComV w0 w p d O N (view X m) q) :=
  (commit_yes h).mono fun e w' ⟨he, O', s', hs, hc, ho⟩ => ⟨he, O', s', _, hs, view_commit h, hc, ho⟩
/-- Any read that is in range. -/
theorem read_fl (hs : Sto w0 w p d O N s X q m) (h : Fl N G (view X m) nn y f C) (hn : nn < 32) {a z s' : Nat} (hz : z ≤ 9728) (he : min z (y.s - a) = s') : Calls Tryz.prog 20 #[.pointer (some ⟨p, 0, none⟩), .int .i64 nn, .int .i64 (a : Int), .int .i64 (z : Int)] w (RdR w (byt C a s') 0) := by
  have hy := (ok_size h.ok h.kind).1
  have hnil : ∀ e w', ErrS w 0 e w' → s' = 0 → RdR w (byt C a s') 0 e w' := fun e w' ⟨h1, h2⟩ h0 => ⟨none, 0, 0, h1, by rw [h0]; exact T.Bts.nil_ _ _, h2⟩
  by_cases h1 : y.s ≤ a
  · exact (read_end (h.open_ hs hn) (by omega) ⟨by omega, by omega⟩).mono fun e w' hq => hnil e w' hq (by omega)
  · by_cases h2 : z = 0
    · subst h2
      exact (read_none (h.open_ hs hn) ⟨by omega, by omega⟩ hy).mono fun e w' hq => hnil e w' hq (by omega)
    · exact read_yes (h.open_ hs hn) hs h.mid h.con hz (by omega) hy he (by omega)
theorem path_nz (h : Mid N G V y f) {b i : Nat} (hb : b < 76) (h0 : f (ixb b) ≠ 0) (hi : i ∈ path b) : f i ≠ 0 := by
  unfold path at hi
  unfold ixb at h0
  split at hi
  · rw [if_pos (by assumption)] at h0
    simp at hi; rw [hi]; exact h0
  · rw [if_neg (by assumption)] at h0
    split at hi
    · rw [if_pos (by assumption)] at h0
      simp at hi
      rcases hi with rfl | rfl
      · intro e
        have := h.rep.none_ 4 (.inl rfl) e (b - 4) (by omega)
        rw [show kid 4 (b - 4) = b + 2 by unfold kid; rw [if_pos rfl]; omega] at this
        exact h0 this
      · exact h0
    · rw [if_neg (by assumption)] at h0
      have h14 : f (14 + (b - 12) / 8) ≠ 0 := fun e => by
        have := h.rep.none_ (14 + (b - 12) / 8) (.inr (.inr (by omega))) e ((b - 12) % 8) (by omega)
        rw [show kid (14 + (b - 12) / 8) ((b - 12) % 8) = b + 10 by unfold kid; rw [if_neg (by omega), if_neg (by omega)]; omega] at this
        exact h0 this
      simp at hi
      rcases hi with rfl | rfl | rfl
      · intro e
        have := h.rep.none_ 5 (.inr (.inl rfl)) e ((b - 12) / 8) (by omega)
        rw [show kid 5 ((b - 12) / 8) = 14 + (b - 12) / 8 by unfold kid; rw [if_neg (by omega), if_pos rfl]] at this
        exact h14 this
      · exact h14
      · exact h0
/-- Which blocks a stretch touches. -/
def Tch (a n b : Nat) : Prop := b < 76 ∧ a ≤ 128 * b + 127 ∧ 128 * b < a + n
theorem write_nz {a n : Nat} (hm : Mid N G V y' f') (hn : 0 < n) (han : a + n ≤ 9728) (hext : Ext f f') (hnew : ∀ i, f' i ≠ 0 → f i ≠ 0 ∨ ∃ j, j < T.np a n ∧ i ∈ path (nb a j)) (hall : ∀ j, j < T.np a n → f' (ixb (nb a j)) ≠ 0) (i : Nat) :
    f' i ≠ 0 ↔ f i ≠ 0 ∨ ∃ b, Tch a n b ∧ i ∈ path b := by
  constructor
  · intro h
    rcases hnew i h with h | ⟨j, hj, hi⟩
    · exact .inl h
    · have := nb_in hj
      exact .inr ⟨nb a j, ⟨(part hj han).b76, by omega, by omega⟩, hi⟩
  · rintro (h | ⟨b, ⟨h1, h2, h3⟩, hi⟩)
    · rw [hext i h]; exact h
    · obtain ⟨j, hj, rfl⟩ := touch hn h2 h3
      exact path_nz hm h1 (hall j hj) hi
/-- All that a stretch touches. -/
def tx (a n : Nat) : List Nat := ((List.range (T.np a n)).map fun j => path (nb a j)).flatten
theorem tx_mem (a n : Nat) : ∀ j, j < T.np a n → ∀ i ∈ path (nb a j), i ∈ tx a n := fun j hj i hi =>
  List.mem_flatten.2 ⟨path (nb a j), List.mem_map.2 ⟨j, List.mem_range.2 hj, rfl⟩, hi⟩
theorem flat_len {L : List (List Nat)} (h : ∀ l ∈ L, l.length ≤ 3) : L.flatten.length ≤ 3 * L.length := by
  induction L with
  | nil => simp
  | cons a r ih =>
    have h1 := h a (by simp)
    have h2 := ih fun l hl => h l (by simp [hl])
    simp only [List.flatten_cons, List.length_append, List.length_cons]
    omega
theorem tx_len {a n k : Nat} (hn : n ≤ 128 * k + 1) : (tx a n).length ≤ 3 * (k + 1) := by
  have h1 := flat_len (L := (List.range (T.np a n)).map fun j => path (nb a j)) fun l hl => by
    obtain ⟨j, _, rfl⟩ := List.mem_map.1 hl
    exact path_len _
  have h2 : T.np a n ≤ k + 1 := by unfold T.np; split <;> omega
  rw [List.length_map, List.length_range] at h1
  unfold tx
  omega
/-- One more node given, where the first two are taken. -/
def m3 (N ep g : Nat) : List Wr := insAll [(0, U.sec N ep (g + 2)), (35, D.put (ns2 g 1) 3 (YtijbgdihnjnllaaGreat.nn 1 (g + 2)).img)] (m1 N ep g 1)
variable {ep g : Nat} {mk : List UInt8}
theorem ns2_len (g k : Nat) : (ns2 g k).length = 128 := D.put_len (D.put_len zeros_len (by omega) rootN.img_len) (by omega) (D.Nn.img_len _)
theorem root_piece3 : D.piece root0 3 = D.zeroN.img := by decide +kernel
theorem root0_len : root0.length = 128 := D.put_len zeros_len (by omega) rootN.img_len
theorem ns2_piece1 (g : Nat) : D.piece (ns2 g 1) 1 = rootN.img := by
  unfold ns2; rw [D.piece_put_ne root0_len (by omega) (by omega) (D.Nn.img_len _) (by omega)]; exact root_piece1
theorem ns2_piece3 (g : Nat) : D.piece (ns2 g 1) 3 = D.zeroN.img := by
  unfold ns2; rw [D.piece_put_ne root0_len (by omega) (by omega) (D.Nn.img_len _) (by omega)]; exact root_piece3
theorem view_m1n (N ep g : Nat) : view X (m1 N ep g 1) 35 = ns2 g 1 := by rw [view_m1]; rfl
theorem view_m3 (n : Nat) : view X (m3 N ep g) n = if 35 = n then D.put (ns2 g 1) 3 (YtijbgdihnjnllaaGreat.nn 1 (g + 2)).img else if 0 = n then U.sec N ep (g + 2) else view X (m1 N ep g 1) n := by
  unfold m3
  show view X (ins ((35 : Nat) : Int) _ (ins ((0 : Nat) : Int) _ (m1 N ep g 1))) n = _
  rw [view_ins', view_ins']
theorem new_std3 (h : Sto w0 w p d O N s X q (m1 N ep g 1)) (hs : Std N X ep g root0 mk) (hok : U.ok N ep g = true) (hg : g + 1 < 1073741824) :
    Calls Tryz.prog 15 #[.pointer (some ⟨p, 0, none⟩), .int .i64 1] w (NewQ3 w0 w p d O N s X q (m3 N ep g)) := by
  have h64 := h.n64
  have hN1 := h.n1
  have ho := U.ok_iff.1 hok
  have e1 : nodeB X (m1 N ep g 1) 1 = rootN.img := by unfold nodeB; rw [show 35 + 1 / 4 = 35 from rfl, view_m1n]; exact ns2_piece1 g
  have e2 : nodeB X (m1 N ep g 1) 2 = (YtijbgdihnjnllaaGreat.nn 1 (g + 1)).img := by unfold nodeB; rw [show 35 + 2 / 4 = 35 from rfl, view_m1n]; exact piece_ns2 g 1
  have e3 : nodeB X (m1 N ep g 1) 3 = D.zeroN.img := by unfold nodeB; rw [show 35 + 3 / 4 = 35 from rfl, view_m1n]; exact ns2_piece3 g
  have ep3 : putN X (m1 N ep g 1) 3 (YtijbgdihnjnllaaGreat.nn 1 (g + 1 + 1)) = D.put (ns2 g 1) 3 (YtijbgdihnjnllaaGreat.nn 1 (g + 2)).img := by unfold putN; rw [show 35 + 3 / 4 = 35 from rfl, view_m1n]
  have hn1 := nn_ok (k := 1) (.inl rfl) (g := g + 1) (by omega)
  have hn2 := nn_ok (k := 1) (.inl rfl) (g := g + 1 + 1) (by omega)
  have hv : view X (m1 N ep g 1) 0 = U.sec N ep (g + 1 : Nat) := by rw [view_m1, if_neg (by omega), if_pos rfl]
  have := new_three h (a := N) (b := ep) (c := g + 1) hv (U.ok_iff.2 (by omega)) (by omega) (k := 1) (.inl rfl) (y1 := rootN) (by rw [e1]; exact (D.good_img root_ok).1) (by rw [e1, (D.good_img root_ok).2]; decide)
    (by rw [e2]; exact (D.good_img hn1).1) (by rw [e2, (D.good_img hn1).2]; exact Nat.one_ne_zero) (by rw [e3]; exact (D.good_img zeroN_ok).1) (by rw [e3]; exact (D.good_img zeroN_ok).2) hn2
    ⟨h.mok, fun r hr => by
      rcases List.mem_cons.1 hr with rfl | hr
      · exact ⟨okn_of hN1 (n := 0) (by omega) (by unfold inLog; omega), by simp; omega, lt_sec (U.ok_iff.2 (by omega))⟩
      · rcases List.mem_cons.1 hr with rfl | hr
        · exact ⟨okn_of hN1 (n := 35) (by omega) (by unfold inLog; omega), by simp; omega, putN_len h (n := 3) (by omega) _⟩
        · exact absurd hr (by simp), by have h1 := newk_le_len (m1 N ep g 1) [(0, U.sec N ep ((g + 1 : Nat) + 1)), (35, putN X (m1 N ep g 1) 3 (YtijbgdihnjnllaaGreat.nn 1 (g + 1 + 1)))]; have h2 := m1_len N ep g 1; simp only [List.length_cons, List.length_nil] at h1 ⊢; omega⟩
  rw [ep3] at this
  exact this
theorem two_new (hN : N ≤ 1024) (hs : Std N X ep g root0 (markL 43)) (hg : g + 1 < 1073741824) :
    Two 2 3 N (view X (m3 N ep g)) (YtijbgdihnjnllaaGreat.nn 1 (g + 1)) (fun _ => 0) (fun _ => 0) (YtijbgdihnjnllaaGreat.nn 1 (g + 2)) (fun _ => 0) (fun _ => 0) := by
  have e34 : view X (m3 N ep g) 34 = markL 43 := by rw [view_m3, if_neg (by omega), if_neg (by omega), view_m1]; exact hs.mark
  have e35 : view X (m3 N ep g) 35 = D.put (ns2 g 1) 3 (YtijbgdihnjnllaaGreat.nn 1 (g + 2)).img := by rw [view_m3, if_pos rfl]
  have hp : ∀ c i, i < 6 → (YtijbgdihnjnllaaGreat.nn 1 c).ptr6 i = 0 := fun c i hi => by
    match i, hi with
    | 0, _ => rfl
    | 1, _ => rfl
    | 2, _ => rfl
    | 3, _ => rfl
    | 4, _ => rfl
    | 5, _ => rfl
  have hmk : ∀ n, 43 ≤ n → n < N → (K.bt (view X (m3 N ep g) 34) n = true ↔ GL (gl fun _ => 0) n) := fun n a b => by
    rw [e34, bt_markL (by omega), gl_zero]
    simp [GL]; omega
  have hG : ∀ n, GL (gl fun _ => 0) n → 43 ≤ n ∧ n < N := fun n h => by rw [gl_zero] at h; exact absurd h (by simp [GL])
  refine ⟨fl_new (hp _) rfl rfl (nn_ok (k := 1) (.inl rfl) (by omega)) ?_ hmk hG (by rw [e34]; exact markL_len 43) hN, fl_new (hp _) rfl rfl (nn_ok (k := 1) (.inl rfl) (by omega)) ?_ hmk hG (by rw [e34]; exact markL_len 43) hN⟩
  · show D.piece (view X (m3 N ep g) 35) 2 = _
    rw [e35, D.piece_put_ne (ns2_len g 1) (by omega) (by omega) (D.Nn.img_len _) (by omega)]
    exact piece_ns2 g 1
  · show D.piece (view X (m3 N ep g) 35) 3 = _
    rw [e35]
    exact D.piece_put (ns2_len g 1) (by omega) (D.Nn.img_len _)
end
end Go.Proofs.YtijbgdihnjnllaaGreat.V
namespace Go.Proofs.YtijbgdihnjnllaaGreat.V
open Go.RowKit
set_option linter.unusedVariables false
set_option maxRecDepth 20000
theorem u8_of {z : Int} (h : (Lit.int .u8 z).wf = true) : 0 ≤ z ∧ z ≤ 255 := by
  have h1 : IntKind.u8.min = 0 := rfl
  have h2 : IntKind.u8.max = 255 := rfl
  simp only [Lit.wf, Bool.and_eq_true, decide_eq_true_eq] at h
  omega
section
variable {w0 w w1 w2 w' : World} {p d N q bf nn na no a n c : Nat} {O : List Nat} {s : DS} {X : Secs2} {m m' : List Wr} {y y' y1 y1' y2 : D.Nn} {f f' f1 f1' f2 : Nat → Nat} {C C' C1 C1' C2 : Nat → UInt8} {low : List Int} {Tx gs : List Nat} {G : Nat → Prop} {V : Img} {A : Option Addr} {l : List UInt8} {M : Nat → Prop}
theorem arg_bts (h : Sto w0 w p d O N s X q m) (hB : F.Bts w0 w0.heap.size A n c l) : Bts w (fun b => b < w0.heap.size) A n c l :=
  ⟨hB.len, hB.cap, hB.lim, fun hn => by
    obtain ⟨b, off, e, hb, hc⟩ := hB.at_ hn
    refine ⟨b, off, e, hb, fun j v hj => ?_⟩
    have hjl : j < l.length := by have := (List.getElem?_eq_some_iff.1 hj).1; rwa [bc_len] at this
    rw [bc_get hjl] at hj
    rw [h.ons.sit.bel.cell (p := ⟨b, off + j, none⟩) hb, hc j (by rw [← hB.len]; exact hjl), hj]⟩
theorem arg_out (h : Sto w0 w p d O N s X q m) : ∀ b, b < w0.heap.size → b < w.heap.size ∧ b ≠ q := fun b hb => by
  have h1 := h.map.lt
  have h2 := h.qf
  omega
def WrT (w0 w : World) (p d N q na no : Nat) (O : List Nat) (s : DS) (X : Secs2) (y1 : D.Nn) (f1 : Nat → Nat) (C1 : Nat → UInt8) (y2 : D.Nn) (f2 : Nat → Nat) (C2 : Nat → UInt8) (low : List Int) (Tx : List Nat) (a : Nat) (l : List UInt8) (n : Nat) (e : Ending) (w' : World) : Prop :=
  e = .returned (.int .i64 0) ∧ ∃ m' y1' f1', Sto w0 w' p d O N s X q m' ∧ Two na no N (view X m') y1' f1' (ovr C1 a l n) y2 f2 C2 ∧ y1'.s = max y1.s (a + n) ∧ (∀ i, f1' i ≠ 0 ↔ f1 i ≠ 0 ∨ ∃ b, Tch a n b ∧ i ∈ path b) ∧ Bud low Tx m' f1' ∧ Chg [q] w w'
end
end Go.Proofs.YtijbgdihnjnllaaGreat.V
namespace Go.Proofs.YtijbgdihnjnllaaGreat.V
open Go.RowKit
set_option linter.unusedVariables false
set_option maxRecDepth 20000
theorem kid_bix {p j : Nat} (hp : isPx p) (h5 : p ≠ 5) (hj : j < 8) : ¬ isPx (kid p j) ∧ bix (kid p j) = (if p = 4 then 4 else 12 + 8 * (p - 14)) + j := by
  unfold isPx at hp ⊢
  unfold kid bix
  rcases hp with rfl | rfl | ⟨h1, h2⟩
  · rw [if_pos rfl, if_pos rfl, if_neg (by omega), if_neg (by omega), if_pos (by omega)]; omega
  · omega
  · rw [if_neg (by omega), if_neg h5, if_neg (by omega), if_neg (by omega), if_neg (by omega), if_neg (by omega), if_neg (by omega)]; omega
section
variable {w0 w w' : World} {p d N q nn B size : Nat} {O : List Nat} {s : DS} {X : Secs2} {m : List Wr} {y : D.Nn} {f : Nat → Nat} {C : Nat → UInt8} {G : Nat → Prop}
theorem cut_leaf0 {i : Nat} (hl : ¬ isPx i) (h : cutF B f i = 0) (h0 : f i ≠ 0) : B ≤ bix i := by
  rw [cutF_leaf B f hl] at h
  split at h
  · exact absurd h h0
  · omega
theorem cut_leaf1 {i : Nat} (hl : ¬ isPx i) (h : cutF B f i ≠ 0) : bix i < B := by
  rw [cutF_leaf B f hl] at h
  split at h
  · assumption
  · exact absurd rfl h
theorem cut_kid {p : Nat} (hp : isPx p) (h : cutF B f p ≠ 0) : ∃ j, j < 8 ∧ cutF B f (kid p j) ≠ 0 := by
  rw [cutF_px B f hp] at h
  split at h
  · exact any8_iff.1 (by assumption)
  · exact absurd rfl h
theorem cut_kid0 {p : Nat} (hp : isPx p) (h : cutF B f p = 0) (h0 : f p ≠ 0) {j : Nat} (hj : j < 8) : cutF B f (kid p j) = 0 := by
  rw [cutF_px B f hp] at h
  split at h
  · exact absurd h h0
  · rename_i hn
    exact Decidable.byContradiction fun hc => hn (any8_iff.2 ⟨j, hj, hc⟩)
theorem px14 {j : Nat} (hj : j < 8) : isPx (kid 5 j) ∧ kid 5 j ≠ 5 ∧ kid 5 j ≠ 4 ∧ kid 5 j = 14 + j := by
  have : kid 5 j = 14 + j := by unfold kid; rw [if_neg (by omega), if_pos rfl]
  rw [this]
  unfold isPx
  omega
/-- Pointers that change lie on the way to the first block that goes. -/
theorem cut_tx (hmin : ∀ p, isPx p → f p ≠ 0 → ∃ j, j < 8 ∧ f (kid p j) ≠ 0) {p : Nat} (hp : isPx p) (h1 : cutF B f p ≠ 0) (h2 : ¬ ∀ j, j < 8 → cutF B f (kid p j) = f (kid p j)) : p ∈ path B := by
  obtain ⟨j, hjj⟩ := Classical.not_forall.1 h2
  obtain ⟨hj, hne⟩ := Classical.not_imp.1 hjj
  clear hjj
  have hc0 : cutF B f (kid p j) = 0 := (cutF_or B f (kid p j)).resolve_left hne
  have hf0 : f (kid p j) ≠ 0 := fun e => hne (by rw [hc0, e])
  obtain ⟨j', hj', hk'⟩ := cut_kid hp h1
  by_cases h5 : p = 5
  · subst h5
    obtain ⟨q1, q2, q3, q4⟩ := px14 hj
    obtain ⟨j2, hj2, hf2⟩ := hmin _ q1 hf0
    obtain ⟨r1, r2⟩ := kid_bix q1 q2 hj2
    have hb := cut_leaf0 r1 (cut_kid0 q1 hc0 hf0 hj2) hf2
    obtain ⟨s1, s2, s3, s4⟩ := px14 hj'
    obtain ⟨j3, hj3, hk3⟩ := cut_kid s1 hk'
    obtain ⟨t1, t2⟩ := kid_bix s1 s2 hj3
    have hb' := cut_leaf1 t1 hk3
    rw [r2, if_neg q3] at hb
    rw [t2, if_neg s3] at hb'
    unfold path
    rw [if_neg (by omega), if_neg (by omega)]
    simp
  · obtain ⟨r1, r2⟩ := kid_bix hp h5 hj
    obtain ⟨t1, t2⟩ := kid_bix hp h5 hj'
    have hb := cut_leaf0 r1 hc0 hf0
    have hb' := cut_leaf1 t1 hk'
    rw [r2] at hb
    rw [t2] at hb'
    unfold isPx at hp
    unfold path
    rcases hp with rfl | rfl | ⟨h3, h4⟩
    · rw [if_pos rfl] at hb hb'
      rw [if_neg (by omega), if_pos (by omega)]
      simp
    · exact absurd rfl h5
    · rw [if_neg (by omega)] at hb hb'
      rw [if_neg (by omega), if_neg (by omega)]
      have : 14 + (B - 12) / 8 = p := by omega
      simp [this]
def TruP (w0 w : World) (p d N q nn : Nat) (O : List Nat) (s : DS) (X : Secs2) (m : List Wr) (G : Nat → Prop) (f : Nat → Nat) (C : Nat → UInt8) (size k : Nat) (e : Ending) (w' : World) : Prop :=
  e = .returned (.int .i64 0) ∧ ∃ low Tx m' y', Aft w0 w p d N q nn O s X m G f low Tx m' y' (cutF ((size + 127) / 128) f) (cutC C size) w' ∧ y'.s = size ∧ (keys m').length ≤ (keys m).length + k
theorem trunc_low (hs : Sto w0 w p d O N s X q m) (h : Fl N G (view X m) nn y f C) (hnn : nn < 32) (hk : (keys m).length ≤ 18) (hsz : size ≤ 9728) : Calls Tryz.prog 24 #[.pointer (some ⟨p, 0, none⟩), .int .i64 nn, .int .i64 (size : Int)] w (TruP w0 w p d N q nn O s X m G f C size 6) := by
  have hl := path_len ((size + 127) / 128)
  refine (trunc_yes (B := (size + 127) / 128) (low := 34 :: ((35 + nn / 4 : Nat) : Int) :: keys m) (Tx := ixb ((size + 127) / 128 - 1) :: path ((size + 127) / 128)) hs h hnn ⟨fun x hx => .inl (by simp [hx]), by simp only [List.length_cons]; omega, by simp⟩ (by simp) hsz rfl
    (fun p hp h1 h2 => List.mem_cons_of_mem _ (cut_tx h.min hp h1 h2)) (fun i _ _ _ => by simp)).mono ?_
  rintro e w' ⟨rfl, m', y', ha, hy⟩
  refine ⟨rfl, _, _, m', y', ha, hy, ?_⟩
  have := ha.bud.len_le ha.sto.mok.rise
  simp only [List.length_cons] at this
  omega
end
end Go.Proofs.YtijbgdihnjnllaaGreat.V
