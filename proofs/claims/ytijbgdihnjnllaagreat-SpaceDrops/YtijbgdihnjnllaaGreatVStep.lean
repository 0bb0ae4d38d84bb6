/- Calls on one of two files, where there is room enough; bytes of an argument. -/
import Derived.Test.YtijbgdihnjnllaaGreatVTwo
namespace Go.Proofs.YtijbgdihnjnllaaGreat.V
open Go.RowKit
set_option linter.unusedVariables false
set_option maxRecDepth 20000
theorem u16_of {z : Int} (h : (Lit.int .u16 z).wf = true) : 0 ≤ z ∧ z ≤ 65535 := by
  have h1 : IntKind.u16.min = 0 := rfl
  have h2 : IntKind.u16.max = 65535 := rfl
  simp only [Lit.wf, Bool.and_eq_true, decide_eq_true_eq] at h
  omega
theorem u8_of {z : Int} (h : (Lit.int .u8 z).wf = true) : 0 ≤ z ∧ z ≤ 255 := by
  have h1 : IntKind.u8.min = 0 := rfl
  have h2 : IntKind.u8.max = 255 := rfl
  simp only [Lit.wf, Bool.and_eq_true, decide_eq_true_eq] at h
  omega
section
variable {w0 w w1 w2 w' : World} {p d N q bf nn na no a n c : Nat} {O : List Nat} {s : DS} {X : Secs2} {m m' : List Wr} {y y' y1 y1' y2 : D.Nn} {f f' f1 f1' f2 : Nat → Nat} {C C' C1 C1' C2 : Nat → UInt8} {low : List Int} {Tx gs : List Nat} {G : Nat → Prop} {V : Img} {A : Option Addr} {l : List UInt8} {M : Nat → Prop}
theorem arg_bts (h : Sto w0 w p d O N s X q m) (hB : F.Bts w0 w0.heap.size A n c l) : Bts w (fun b => b < w0.heap.size) A n c l :=
  ⟨hB.len, hB.cap, hB.lim, fun hn => by
    obtain ⟨b, off, e, hb, hc⟩ := hB.at_ hn
    refine ⟨b, off, e, hb, fun j v hj => ?_⟩
    have hjl : j < l.length := by have := (List.getElem?_eq_some_iff.1 hj).1; rwa [bc_len] at this
    rw [bc_get hjl] at hj
    rw [h.ons.sit.bel.cell (p := ⟨b, off + j, none⟩) hb, hc j (by rw [← hB.len]; exact hjl), hj]⟩
theorem arg_out (h : Sto w0 w p d O N s X q m) : ∀ b, b < w0.heap.size → b < w.heap.size ∧ b ≠ q := fun b hb => by
  have h1 := h.map.lt
  have h2 := h.qf
  omega
def WrT (w0 w : World) (p d N q na no : Nat) (O : List Nat) (s : DS) (X : Secs2) (y1 : D.Nn) (f1 : Nat → Nat) (C1 : Nat → UInt8) (y2 : D.Nn) (f2 : Nat → Nat) (C2 : Nat → UInt8) (low : List Int) (Tx : List Nat) (a : Nat) (l : List UInt8) (n : Nat) (e : Ending) (w' : World) : Prop :=
  e = .returned (.int .i64 0) ∧ ∃ m' y1' f1', Sto w0 w' p d O N s X q m' ∧ Two na no N (view X m') y1' f1' (ovr C1 a l n) y2 f2 C2 ∧ y1'.s = max y1.s (a + n) ∧ (∀ i, f1' i ≠ 0 ↔ f1 i ≠ 0 ∨ ∃ b, Tch a n b ∧ i ∈ path b) ∧ Bud low Tx m' f1' ∧ Chg [q] w w'
theorem write_two (hs : Sto w0 w p d O N s X q m) (h : Two na no N (view X m) y1 f1 C1 y2 f2 C2) (ha : na < 32) (hb : no < 32) (hab : na / 4 = no / 4) (hne : na ≠ no) (hbud : Bud low Tx m f1) (h35 : ((35 + na / 4 : Nat) : Int) ∈ low) (hn : 0 < n) (han : a + n ≤ 9728)
    (hd : Bts w M A n c l) (hM : ∀ b, M b → b < w.heap.size ∧ b ≠ q) (hx : ∀ j, j < T.np a n → ∀ i ∈ path (nb a j), i ∈ Tx) (hroom : nzn f1 + Tx.length + nzn f2 < N - 43) :
    Calls Tryz.prog 16 #[.pointer (some ⟨p, 0, none⟩), .int .i64 na, .int .i64 (a : Int), .slice A n c] w (WrT w0 w p d N q na no O s X y1 f1 C1 y2 f2 C2 low Tx a l n) := by
  refine (write_yes hs h.a ha hbud h35 hn han hd hM hx).mono ?_
  rintro e w' (⟨rfl, m', y', f', haft, hsz, hext, hnew, hall⟩ | ⟨rfl, ⟨bf, m2, hno⟩, _⟩)
  · exact ⟨rfl, m', y', f', haft.sto, h.aft hs hab hne hb haft, hsz, fun i => write_nz haft.fl.mid hn han hext hnew hall i, haft.bud, haft.chg⟩
  · exact absurd hno (FNo.not (gl_nodup h.b.mid) hx (.inl (by rw [gl_len]; exact hroom)))
/-- Behind a commit. -/
theorem write_fresh (hs : Sto w0 w p d O N s X q []) (h : Two na no N (view X []) y1 f1 C1 y2 f2 C2) (hab : na = 2 ∧ no = 3 ∨ na = 3 ∧ no = 2) (hn : 0 < n) (hn2 : n ≤ 513) (han : a + n ≤ 9728)
    (hd : Bts w M A n c l) (hM : ∀ b, M b → b < w.heap.size ∧ b ≠ q) (hroom : nzn f1 + 15 + nzn f2 < N - 43) :
    Calls Tryz.prog 16 #[.pointer (some ⟨p, 0, none⟩), .int .i64 na, .int .i64 (a : Int), .slice A n c] w (WrT w0 w p d N q na no O s X y1 f1 C1 y2 f2 C2 [34, 35] (tx a n) a l n) := by
  have ht := tx_len (a := a) (n := n) (k := 4) (by omega)
  exact write_two hs h (by omega) (by omega) (by omega) (by omega) ⟨fun k hk => absurd hk (by simp [keys]), by simp; omega, by simp⟩ (by rcases hab with ⟨rfl, rfl⟩ | ⟨rfl, rfl⟩ <;> simp) hn han hd hM (tx_mem a n) (by omega)
theorem nz_tx (han : a + n ≤ 9728) (hn : 0 < n) {f g : Nat → Nat} (h : ∀ i, f i ≠ 0 ↔ g i ≠ 0 ∨ ∃ b, Tch a n b ∧ i ∈ path b) {k : Nat} (hk : n ≤ 128 * k + 1) : nzn f ≤ nzn g + 3 * (k + 1) := by
  have h1 := nzn_le (T := tx a n) (f := g) (g := f) fun i hi => ((h i).1 hi).imp id fun ⟨b, ⟨h1, h2, h3⟩, hi⟩ => by
    obtain ⟨j, hj, rfl⟩ := touch hn h2 h3
    exact tx_mem a n j hj i hi
  have := tx_len (a := a) (n := n) hk
  omega
theorem byt_congr {C C' : Nat → UInt8} {a n : Nat} (h : ∀ i, a ≤ i → i < a + n → C i = C' i) : byt C a n = byt C' a n := by
  unfold byt
  exact List.map_congr_left fun i hi => h _ (by omega) (by have := List.mem_range.1 hi; omega)
/-- Written again. -/
theorem ovr_twice (C : Nat → UInt8) (a : Nat) (l : List UInt8) (n : Nat) : ovr (ovr C a l n) a l n = ovr C a l n := by
  funext i; unfold ovr; split <;> rfl
/-- Written in two parts. -/
theorem ovr_parts (C : Nat → UInt8) (a : Nat) (l : List UInt8) {k n : Nat} (hk : k ≤ n) : ovr (ovr C a (l.take k) k) (a + k) (l.drop k) (n - k) = ovr C a l n := by
  funext i
  unfold ovr
  by_cases h1 : a + k ≤ i ∧ i < a + k + (n - k)
  · rw [if_pos h1, if_pos (by omega), List.getElem?_drop, show k + (i - (a + k)) = i - a by omega]
  · rw [if_neg h1]
    by_cases h2 : a ≤ i ∧ i < a + k
    · rw [if_pos h2, if_pos (by omega), List.getElem?_take, if_pos (by omega)]
    · rw [if_neg h2, if_neg (by omega)]
theorem tch_parts {a k n b : Nat} (hk : 0 < k) (hkn : k < n) : Tch a n b ↔ Tch a k b ∨ Tch (a + k) (n - k) b := by
  unfold Tch; omega
end
end Go.Proofs.YtijbgdihnjnllaaGreat.V
