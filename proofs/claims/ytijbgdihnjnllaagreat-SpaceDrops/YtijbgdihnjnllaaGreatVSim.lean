/- A file beside the reference's; a drive with data, mounted again. -/
import Derived.Test.YtijbgdihnjnllaaGreatVRefW
import Derived.Test.YtijbgdihnjnllaaGreatVRefN
import Derived.Test.YtijbgdihnjnllaaGreatVSteps
namespace Go.Proofs.YtijbgdihnjnllaaGreat.V
open Go.RowKit
set_option linter.unusedVariables false
set_option maxRecDepth 20000
theorem byt_get (C : Nat → UInt8) {n i : Nat} (h : i < n) : (byt C 0 n)[i]? = some (C i) := by
  unfold byt
  rw [List.getElem?_map, List.getElem?_range h]
  show some (C (0 + i)) = _
  rw [Nat.zero_add]
theorem byt_none (C : Nat → UInt8) {n i : Nat} (h : n ≤ i) : (byt C 0 n)[i]? = none := List.getElem?_eq_none (by rw [byt_len]; exact h)
theorem pad_get {C : Nat → UInt8} {s a i : Nat} (hz : ∀ i, s ≤ i → C i = 0) (h : i < max s a) : (pad (byt C 0 s) a)[i]? = some (C i) := by
  unfold pad noughts
  by_cases h1 : i < s
  · rw [List.getElem?_append_left (by rw [byt_len]; exact h1), byt_get C h1]
  · rw [List.getElem?_append_right (by rw [byt_len]; omega), byt_len, List.getElem?_replicate, if_pos (by omega), hz i (by omega)]
theorem pad_none {C : Nat → UInt8} {s a i : Nat} (h : max s a ≤ i) : (pad (byt C 0 s) a)[i]? = none := List.getElem?_eq_none (by rw [pad_len, byt_len]; exact h)
/-- The document's Write, and the file's bytes. -/
theorem wrL_byt {C : Nat → UInt8} {s a n : Nat} {d : List UInt8} (hz : ∀ i, s ≤ i → C i = 0) (hn : d.length = n) : wrL (byt C 0 s) a d = byt (ovr C a d n) 0 (max s (a + n)) := by
  have hp : (pad (byt C 0 s) a).length = max s a := by rw [pad_len, byt_len]
  apply List.ext_getElem?
  intro i
  unfold wrL
  rw [hn]
  by_cases h1 : i < a
  · rw [List.getElem?_append_left (by rw [List.length_append, List.length_take, hp]; omega), List.getElem?_append_left (by rw [List.length_take, hp]; omega), List.getElem?_take, if_pos h1, pad_get hz (by omega), byt_get _ (by omega)]
    unfold ovr; rw [if_neg (by omega)]
  · by_cases h2 : i < a + n
    · rw [List.getElem?_append_left (by rw [List.length_append, List.length_take, hp]; omega), List.getElem?_append_right (by rw [List.length_take, hp]; omega), List.length_take, hp, byt_get _ (by omega)]
      unfold ovr; rw [if_pos (by omega), show i - min a (max s a) = i - a by omega, List.getElem?_eq_getElem (by omega)]; rfl
    · rw [List.getElem?_append_right (by rw [List.length_append, List.length_take, hp]; omega), List.length_append, List.length_take, hp, List.getElem?_drop, show a + n + (i - (min a (max s a) + d.length)) = i by omega]
      by_cases h3 : i < s
      · rw [pad_get hz (by omega), byt_get _ (by omega)]
        unfold ovr; rw [if_neg (by omega)]
      · rw [pad_none (by omega), byt_none _ (by omega)]
theorem byt_take {C : Nat → UInt8} {s k : Nat} (a : Nat) (h : a + k ≤ s) : ((byt C 0 s).drop a).take k = byt C a k := by
  apply List.ext_getElem?
  intro i
  rw [List.getElem?_take]
  split
  · rename_i hi
    rw [List.getElem?_drop, byt_get _ (by omega)]
    unfold byt
    rw [List.getElem?_map, List.getElem?_range hi]; rfl
  · rw [List.getElem?_eq_none (by rw [byt_len]; omega)]
section
variable {w0 w w' : World} {p d N q nn : Nat} {O : List Nat} {s : DS} {X : Secs2} {m m' : List Wr} {G : Nat → Prop} {f f' : Nat → Nat} {C' : Nat → UInt8} {y' : D.Nn} {low : List Int} {Tx : List Nat} {ep g : Nat}
/-- What a mount looks at. -/
structure Bas (N : Nat) (V : Img) (ep g : Nat) : Prop where
  sup : V 0 = U.sec N ep g
  seat : ∀ i, i < 8 → V (26 + i) = seat0
theorem Bas.aft (h : Bas N (view X m) ep g) (hnn : nn < 32) (hr : ∀ i, i < 86 → f i ≠ 0 → 43 ≤ f i) (ha : Aft w0 w p d N q nn O s X m G f low Tx m' y' f' C' w') : Bas N (view X m') ep g := by
  have hr' : ∀ i, i < 86 → f' i ≠ 0 → 43 ≤ f' i := fun i hi h0 => by have := ha.fl.mid.rng i hi; omega
  have hk : ∀ k, k < 34 → view X m' k = view X m k := fun k hk => ha.fr k (by omega) (by omega) (fun i hi h0 e => by have := hr' i hi h0; omega) (fun i hi h0 e => by have := hr i hi h0; omega)
  exact ⟨by rw [hk 0 (by omega)]; exact h.sup, fun i hi => by rw [hk _ (by omega)]; exact h.seat i hi⟩
theorem mount_bas (h : Ons w0 w d O N s X) (hs : Bas N (view X []) ep g) (hok : U.ok N ep g = true) (hep : ep < 1073741824) : Calls Tryz.prog 14 #[.pointer (some ⟨d, 0, none⟩)] w (MouOk w0 w d O N X ep g) := by
  have ho := U.ok_iff.1 hok
  have hsup : ∀ w1 p q O1, Sto w0 w1 p d O1 N s X q [] → Calls Tryz.prog 35 #[.pointer (some ⟨p, 0, none⟩)] w1 fun e w' => e = .returned (.agg #[.int .i64 N, .int .i64 ep, .int .i64 g]) ∧ Below w1.heap.size w1 w' := fun w1 p q O1 hS => by
    have hv := hs.sup
    have := super_yes hS (by rw [hv]; exact U.isSec_sec hok)
    rw [hv, U.num_sec0 N ep g (by omega), U.num_sec1 N ep g (by omega), U.num_sec2 N ep g (by omega)] at this
    exact this
  refine mount_walk h (a := N) (b := ep) (c := g) (r := true) (fun w1 p q O1 hS => hsup w1 p q O1 hS) (fun w1 p q O1 hS => seated_any hS ⟨fun _ i hi => ?_, fun _ => rfl⟩) (fun _ _ _ => U.ok_iff.2 (by omega)) (by omega) _ (fun hn => absurd rfl hn) (fun _ hr => by cases hr) (fun _ _ hb => by omega) (fun _ _ _ e w' hh => hh)
  rw [hs.seat i hi]
  exact seat0_is
/-- A file behind a mount. -/
theorem Fl.mounted {y : D.Nn} {C : Nat → UInt8} (h : Fl N G (view X []) nn y f C) (hX : X.length = N) (hN : 64 ≤ N) (hok : U.ok N ((ep + 1 : Nat) : Int) g = true) : Fl N G (view (lay X (toW [(0, U.sec N (ep + 1) g)])) []) nn y f C := by
  have ho := U.ok_iff.1 hok
  have hm := MOk.one hN (by have := h.mid.n1; omega) hok
  have hv : ∀ k, k ≠ 0 → view (lay X (toW [(0, U.sec N (ep + 1) g)])) [] k = view X [] k := fun k hk => by
    by_cases hkN : k < N
    · rw [view_nil, lay_getD hX hm hkN, show ([(0, U.sec N (ep + 1) g)] : List Wr) = ins ((0 : Nat) : Int) (U.sec N (ep + 1) g) [] from rfl, view_ins', if_neg (Ne.symm hk)]
    · rw [view_nil, view_nil, List.getElem?_eq_none (by rw [lay_len, hX]; omega), List.getElem?_eq_none (by omega)]
  have hf : ∀ i, i < 86 → f i ≠ 0 → f i ≠ 0 := fun _ _ h => h
  have hmid := h.mid
  refine ⟨⟨⟨hmid.rep.top, fun p hp h0 => ?_, hmid.rep.none_⟩, hmid.rng, hmid.inj, fun n h1 h2 => ?_, hmid.oth, hmid.grng, ?_, hmid.n1⟩, ⟨fun b hb h0 => ?_, h.con.no⟩, ?_, h.ok, h.kind, h.zero, h.few, h.min⟩
  · rw [hv _ h0]; exact hmid.rep.some_ p hp h0
  · rw [hv _ (by omega)]; exact hmid.mrk n h1 h2
  · rw [hv _ (by omega)]; exact hmid.ml
  · rw [hv _ h0]; exact h.con.yes b hb h0
  · rw [hv _ (by omega)]; exact h.nod
end
end Go.Proofs.YtijbgdihnjnllaaGreat.V
