/- For StoreMounts: a sector spoilt, a mount whatever there is, copies of bytes. -/
import Derived.Test.YthjjfncpongghaaGreatSAwake
import Derived.Laws.BitsAllLaws
namespace Go.Proofs.YthjjfncpongghaaGreat
open Go.RowKit
set_option linter.unusedVariables false
set_option maxRecDepth 20000

/-- One sector written over, and that lasts. -/
theorem OnS.spoil {N : Nat} {s : DS} {X : Secs2} {n : Nat} {l : List UInt8} (h : OnS N s X) (hf : s.fused = false) (hX : X.length = N) (hN : 64 ≤ N) (hn : n < N) (h1 : n ≠ 1) (hl : l.length = 128) :
    ∃ s1 s2, s.put N [((n : Int), l)] = (0, s1) ∧ s1.flush = (0, s2) ∧ OnS N s2 (X.set n l) ∧ s2.fused = false := by
  obtain ⟨L, hR, hw, hD⟩ := h
  have e1 : s.put N [((n : Int), l)] = (0, s.put1 n l) := by
    rw [put_free hf hR.down (fit0 fun w hw => by
      simp at hw
      subst hw
      exact ⟨by simp, by simp; omega, hl⟩)]
    rfl
  have e2 := flush_free (s := s.put1 n l) hf hR.down
  have hlay : lay (s.put1 n l).lasting (s.put1 n l).since = L.set n l := by
    show lay s.lasting (s.since ++ [(n, l)]) = _
    rw [hR.since, hR.las]
    rfl
  have hnow : (s.put1 n l).now = L.set n l := by
    show s.now.set n l = _
    rw [hR.now]
  rw [hlay] at e2
  refine ⟨_, _, e1, e2, ⟨L.set n l, ?_, ?_, ?_⟩, hf⟩
  · exact ⟨hR.down, rfl, hnow, rfl, fun e => by rw [show ({ s.put1 n l with lasting := L.set n l, since := [] } : DS).fused = false from hf] at e; cases e⟩
  · refine ⟨by rw [List.length_set]; exact hw.len, fun x hx => ?_⟩
    rcases List.mem_or_eq_of_mem_set hx with g | g
    · exact hw.all x g
    · rw [g]; exact hl
  · refine DenN.empty ?_ fun i h2 h3 => ?_
    · rw [List.getElem?_set_ne h1]; exact hD.head
    · rw [List.getElem?_set, List.getElem?_set, hD.plain h2 h3, hX, hw.len]
/-- Whatever there is, it is mounted, or nothing is written. -/
def MAny (w0 w : World) (d : Nat) (O : List Nat) (N : Nat) (s : DS) (X : Secs2) (e : Ending) (w' : World) : Prop :=
  (∃ er : Int, (er = 2 ∨ er = 9) ∧ Mou w0 w d O N s X er e w') ∨ ∃ b c : Nat, U.ok N ((b + 1 : Nat) : Int) c = true ∧ MouOk w0 w d O N X b c e w'
theorem mount_any {w0 w : World} {d N : Nat} {O : List Nat} {s : DS} {X : Secs2} (h : Ons w0 w d O N s X) (hN1 : N ≤ 1024) : Calls Tryz.prog 14 #[.pointer (some ⟨d, 0, none⟩)] w (MAny w0 w d O N s X) := by
  classical
  have hse : ∀ (r : Bool), (r = true ↔ ∀ i, i < 8 → A.IsSec (view X [] (26 + i))) → ∀ w1 p q O1, Sto w0 w1 p d O1 N s X q [] → Calls Tryz.prog 41 #[.pointer (some ⟨p, 0, none⟩)] w1 fun e w' => e = .returned (.bool r) ∧ Below w1.heap.size w1 w' := fun r hr w1 p q O1 hS => seated_any hS hr
  have hn64 := h.n64
  obtain ⟨r, hr⟩ : ∃ r : Bool, r = true ↔ ∀ i, i < 8 → A.IsSec (view X [] (26 + i)) := ⟨@decide _ (Classical.propDecidable (∀ i, i < 8 → A.IsSec (view X [] (26 + i)))), @decide_eq_true_iff _ (Classical.propDecidable _)⟩
  by_cases hs : U.IsSec (view X [] 0)
  · have ho := hs.2.1
    have hoi := U.ok_iff.1 ho
    refine mount_walk h (fun w1 p q O1 hS => super_yes hS hs) (hse r hr) (fun ha _ hb => ?_) (by omega) _ (fun _ e w' hm => .inl ⟨2, .inl rfl, hm⟩) (fun _ _ e w' hm => .inl ⟨2, .inl rfl, hm⟩) (fun _ _ _ e w' hm => .inl ⟨9, .inr rfl, hm⟩) (fun ha _ hb e w' hm => .inr ⟨_, _, ?_, hm⟩)
    · exact U.ok_iff.2 (by omega)
    · exact U.ok_iff.2 (by omega)
  · refine mount_walk h (a := 0) (b := 0) (c := 0) (fun w1 p q O1 hS => super_no hS hs) (hse r hr) (fun ha => by omega) (by omega) _ (fun _ e w' hm => .inl ⟨2, .inl rfl, hm⟩) (fun ha => by omega) (fun ha => by omega) (fun ha => by omega)
theorem copy_any {w : World} {g n c B : Nat} {A : Option Addr} {l bs : List UInt8} {t : TypeId} (hg : w.heap[g]? = some (.cells (bc l).toArray t (0, 0))) (hl : l.length = 128) (hB : F.Bts w B A n c bs) :
    ∃ l' w' r, (Builtin.copy_ #[22, 22] 3 #[.slice (some ⟨g, 0, none⟩) 128 128, .slice A n c]).run Tryz.prog w = .ok r w' ∧ w'.heap[g]? = some (.cells (bc l').toArray t (0, 0)) ∧ l'.length = 128 ∧ w.grownBy w' (some g) := by
  by_cases h0 : 0 < n
  · obtain ⟨b, off, rfl, hb, hc⟩ := hB.at_ h0
    obtain ⟨k, hk⟩ : ∃ k, Nat.min n 128 = k := ⟨_, rfl⟩
    have hk1 : k ≤ n := by rw [← hk]; exact Nat.min_le_left _ _
    have hk2 : k ≤ 128 := by rw [← hk]; exact Nat.min_le_right _ _
    have hbl := hB.len
    have hcl : (bc (bs.take k)).length = k := by rw [bc_len, List.length_take]; omega
    obtain ⟨w', hr, hh, hgr, _⟩ := D.copy_run (w := w) (dT := 22) (ty := 3) (elem := 5) Tryz.underlying22 (by kernel_rfl) (g := g) (off := 0) (dLen := 128) (dCap := 128) (sLen := n) (sCap := c) (ad := ⟨b, off, none⟩) (L := bc l) (cs := bc (bs.take k)) (t := t)
      hg (by rw [hcl, hk]) (fun j v hj => by
        have hj' : j < k := by have := (List.getElem?_eq_some_iff.1 hj).1; omega
        rw [Addr.add_mid, hc j (by omega), ← hj]
        simp [bc, hj', show j < bs.length by omega]) (by rw [hcl, bc_len]; omega) (bc_one _)
    refine ⟨bs.take k ++ l.drop k, w', _, hr, ?_, ?_, hgr⟩
    · rw [hh]
      congr 3
      unfold splice
      rw [List.take_zero, List.nil_append, Nat.zero_add, hcl]
      simp [bc]
    · rw [List.length_append, List.length_take, List.length_drop]; omega
  · have hr := run_copy_none (P := Tryz.prog) w 22 22 3 5 (some ⟨g, 0, none⟩) A 128 128 n c Tryz.underlying22 (by kernel_rfl) (by simp; omega)
    exact ⟨l, w, _, hr, hg, hl, ⟨rfl, rfl, rfl, Nat.le_refl _, fun _ _ _ => rfl⟩⟩
theorem xor_val (x : UInt8) {z : Nat} (hz : z < 256) : ∃ y : UInt8, bits .xor .u8 (x.toNat : Int) (z : Int) = (y.toNat : Int) := by
  rw [u8_xor_nat _ _ x.toNat_lt hz]
  have h : x.toNat ^^^ z < 256 := Nat.xor_lt_two_pow (n := 8) x.toNat_lt hz
  exact ⟨UInt8.ofNat (x.toNat ^^^ z), by rw [UInt8.toNat_ofNat']; omega⟩
end Go.Proofs.YthjjfncpongghaaGreat
