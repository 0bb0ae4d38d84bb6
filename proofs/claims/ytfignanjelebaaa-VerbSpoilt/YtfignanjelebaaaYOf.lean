/- package verb: the pointers to the fields of a request, a reply, a recall, a list. -/
import Derived.Test.YtfignanjelebaaaYGet
namespace Go.Proofs.Ytfignanjelebaaa
open Go.RowKit
set_option linter.unusedVariables false
/-- The pointers, in a new block. -/
def OfQ (w : World) (g : Nat) (os : List Nat) (e : Ending) (w' : World) : Prop :=
  ∃ f, e = .returned (.slice (some ⟨f, 0, none⟩) os.length os.length) ∧ w.heap.size ≤ f ∧ w'.heap[f]? = some (.cells (os.map fun o => PV (g, o)).toArray 97 (0, 0)) ∧ Below w.heap.size w w'
/-- The same, however they lie. -/
def OfP (w : World) (ps : List (Nat × Nat)) (e : Ending) (w' : World) : Prop :=
  ∃ A n c, e = .returned (.slice A n c) ∧ Ptrs w' A n ps ∧ (∀ f, A = some ⟨f, 0, none⟩ → w.heap.size ≤ f ∧ f < w'.heap.size) ∧ Below w.heap.size w w'
theorem OfQ.ofp {w w' : World} {g : Nat} {os : List Nat} {e : Ending} (h : OfQ w g os e w') : OfP w (os.map fun o => (g, o)) e w' := by
  obtain ⟨f, rfl, hf, hc, hb⟩ := h
  have hl : (os.map fun o => (g, o)).length = os.length := List.length_map ..
  refine ⟨some ⟨f, 0, none⟩, os.length, os.length, rfl, ⟨hl, fun k hk => ⟨f, rfl, _, _, _, hc, by decide, ?_⟩⟩, fun f' e => ?_, hb⟩
  · rw [hl] at hk
    simp [hk]
  · cases e
    exact ⟨hf, lt_of_heap hc⟩
theorem own_ptrs {base e : Nat} {w : World} {v : Value} {ps : List (Nat × Nat)} (h : w.ownsRow base e 1 v ps.length (ps.map PV)) (he : e ≠ 5) : ∃ A c, v = .slice A ps.length c ∧ Ptrs w A ps.length ps ∧ (∀ f, A = some ⟨f, 0, none⟩ → base ≤ f ∧ f < w.heap.size) := by
  rcases h.2 with ⟨rfl, h0⟩ | ⟨g, cap, cur, rfl, hg, hh, hn, hm, hs, ht⟩
  · refine ⟨none, 0, by rw [h0], ⟨rfl, fun k hk => ?_⟩, fun f e => by cases e⟩
    omega
  · refine ⟨_, _, rfl, ⟨rfl, fun k hk => ⟨g, rfl, cur, e, _, hh, he, ?_⟩⟩, fun f e => ?_⟩
    · have e1 : cur.toList[k]? = (ps.map PV)[k]? := by
        rw [← ht, List.getElem?_take, if_pos (by omega)]
      rw [← Array.getElem?_toList, e1]
      simp [hk]
    · cases e
      exact ⟨hg, lt_of_heap hh⟩
theorem own_alloc {base e k n : Nat} {w : World} {v : Value} {xs : List Value} (h : w.ownsRow base e k v n xs) (o : Obj) : (w.alloc o).ownsRow base e k v n xs := by
  refine ⟨h.1, ?_⟩
  rcases h.2 with h0 | ⟨g, cap, cur, e, hg, hh, r⟩
  · exact .inl h0
  · exact .inr ⟨g, cap, cur, e, hg, ((below_alloc w o).block g (lt_of_heap hh)).trans hh, r⟩
theorem Try.info97 : (Try.prog.info? 97).map (fun i => (i.zero, i.size, i.bytes)) = some (some (.pointer none), 1, 8) := by kernel_rfl
theorem Try.info72 : (Try.prog.info? 72).map (fun i => (i.zero, i.size, i.bytes)) = some (some (.pointer none), 1, 8) := by kernel_rfl
/-- append of pointers behind pointers of the call's own. -/
theorem app_ptr {w : World} {base f c t e : Nat} {fr : Nat × Nat} {C : Array Value} {v : Value} {l l' : List Value} (ty : TypeId) (hu : Try.prog.underlying t = some (.slice e)) (hi : (Try.prog.info? e).map (fun i => (i.zero, i.size, i.bytes)) = some (some (.pointer none), 1, 8))
    (hown : w.ownsRow base e 1 v l.length l) (hf : w.heap[f]? = some (.cells C e fr)) (hC : C.toList = l') (h1 : ∀ u ∈ l', u.oneCell' = true) (hl : l.length + l'.length ≤ 1000) (hbase : base ≤ w.heap.size) :
    ∃ v' w', (Builtin.append_ #[t, t] ty #[v, .slice (some ⟨f, 0, none⟩) l'.length c]).run Try.prog w = .ok v' w' ∧ w'.ownsRow base e 1 v' (l ++ l').length (l ++ l') ∧ w.grownBy w' v.ownBlock := by
  obtain ⟨i0, hi, hz0, hz1, hz2⟩ := info_parts hi
  obtain ⟨v', w', hr, h2, h3, _⟩ := run_append_own (P := Try.prog) w base t ty e i0 _ 1 8 hu hi hz0 hz1 hz2 rfl (by decide) v l.length l hown ⟨f, 0, none⟩ l'.length c l' (by simp)
    (fun j u hu => by
      rw [Addr.add_lit, cell_of_row w f (0 + j) C e fr hf, Nat.zero_add, ← Array.getElem?_toList, hC]
      exact hu) h1 (by unfold maxLen; omega) (by omega) hbase
  exact ⟨v', w', hr, by simpa using h2, h3⟩
theorem PV_one (ps : List (Nat × Nat)) : ∀ u ∈ ps.map PV, u.oneCell' = true := by
  intro u hu
  obtain ⟨p, _, rfl⟩ := List.mem_map.1 hu
  rfl
def vOs : List Nat := [0, 1, 2, 3, 4, 7, 8, 9, 10, 11]
def cOs : List Nat := [0, 1, 2]
def sOs : List Nat := [3, 4, 5, 6, 7, 8, 9]
def rOs : List Nat := cOs ++ sOs
set_option maxHeartbeats 2000000 in
set_option maxRecDepth 100000 in
theorem ofVerb_any (g : Nat) (w : World) : Calls Try.prog 31 #[.pointer (some ⟨g, 0, none⟩)] w (OfP w (vOs.map fun o => (g, o))) := by
  refine Calls.mono (R := OfQ w g vOs) ?_ fun _ _ h => h.ofp
  go_enter Try.func31, Try.ntmps31
  go_wp2_with fail
  go_region
  go_wp2
  go_ret
  exact ⟨_, rfl, Nat.le_refl _, heap_alloc_new _ _, (below_alloc _ _).drew⟩
set_option maxHeartbeats 2000000 in
set_option maxRecDepth 100000 in
theorem ofRecall_any (g : Nat) (w : World) : Calls Try.prog 59 #[.pointer (some ⟨g, 0, none⟩)] w (OfP w (cOs.map fun o => (g, o))) := by
  refine Calls.mono (R := OfQ w g cOs) ?_ fun _ _ h => h.ofp
  go_enter Try.func59, Try.ntmps59
  go_wp2_with fail
  go_region
  go_wp2
  go_ret
  exact ⟨_, rfl, Nat.le_refl _, heap_alloc_new _ _, (below_alloc _ _).drew⟩
set_option maxHeartbeats 2000000 in
set_option maxRecDepth 100000 in
theorem ofChange_q (g : Nat) (w : World) : Calls Try.prog 60 #[.pointer (some ⟨g, 0, none⟩)] w (OfQ w g sOs) := by
  go_enter Try.func60, Try.ntmps60
  go_wp2_with fail
  go_region
  go_wp2
  go_ret
  exact ⟨_, rfl, Nat.le_refl _, heap_alloc_new _ _, (below_alloc _ _).drew⟩
theorem ofChange_any (g : Nat) (w : World) : Calls Try.prog 60 #[.pointer (some ⟨g, 0, none⟩)] w (OfP w (sOs.map fun o => (g, o))) := (ofChange_q g w).mono fun _ _ h => h.ofp
/-- What each has laid up to its k-th. -/
def eps (b off k : Nat) : List (Nat × Nat) := (List.range k).map fun j => (b, off + j)
theorem eps_succ (b off k : Nat) : eps b off (k + 1) = eps b off k ++ [(b, off + k)] := by simp [eps, List.range_succ]
theorem eps_length (b off k : Nat) : (eps b off k).length = k := by simp [eps]
def EachQ (w : World) (ps : List (Nat × Nat)) (e : Ending) (w' : World) : Prop := ∃ v, e = .returned v ∧ w'.ownsRow w.heap.size 72 1 v ps.length (ps.map PV) ∧ Below w.heap.size w w'
set_option maxHeartbeats 2000000 in
theorem each_any (A : Option Addr) (b off n c : Nat) (w : World) (hA : 0 < n → A = some ⟨b, off, none⟩) (hn : n ≤ 900) : Calls Try.prog 55 #[.slice A n c] w (OfP w (eps b off n)) := by
  refine Calls.mono (R := EachQ w (eps b off n)) ?_ fun _ _ h => by
    obtain ⟨v, rfl, ho, hb⟩ := h
    obtain ⟨A, c, rfl, hp, hf⟩ := own_ptrs ho (by decide)
    exact ⟨A, _, c, rfl, hp, hf, hb⟩
  have HA := Lib.hid hA
  clear hA
  go_enter Try.func55, Try.ntmps55
  go_wp2_with fail
  go_loopw [3, 7] (fun s i wr => ∃ k : Nat, ∃ v, k ≤ n ∧ i = .int .i64 k ∧ s = v ∧ Hid (wr.ownsRow w.heap.size 72 1 v (eps b off k).length ((eps b off k).map PV)) ∧ Hid (Below w.heap.size w wr)) (fun _ i _ => n - (intOf i).toNat)
  case atStart => exact ⟨0, .slice none 0 0, Nat.zero_le _, rfl, rfl, World.ownsRow_nil _ _ _ _, Below.refl _ _⟩
  case round =>
    obtain ⟨k, v, hk, rfl, rfl, HO, HB⟩ := hrel
    by_cases hlt : k < n
    · obtain rfl := HA.out (by omega)
      have hbz := HB.out.size
      have hb1 : Below w.heap.size w (wr.alloc (.cells #[PV (b, off + k)] 72)) := HB.out.alloc hbz _
      have hz : (wr.alloc (.cells #[PV (b, off + k)] 72)).heap.size = wr.heap.size + 1 := by simp
      have hown := own_alloc HO.out (.cells #[PV (b, off + k)] 72)
      obtain ⟨v', w', hr, ho', hgr⟩ := app_ptr (c := 1) 98 Try.underlying98 Try.info72 (by rw [List.length_map]; exact hown) (heap_alloc_new wr _) (by rfl : _ = [PV (b, off + k)]) (by simp [PV, Value.oneCell']) (by simp [eps_length]; omega) hb1.size
      have HR := Lib.hid hr
      have HO' : Hid (w'.ownsRow w.heap.size 72 1 v' (eps b off (k + 1)).length ((eps b off (k + 1)).map PV)) := by
        have e : (eps b off (k + 1)).map PV = (eps b off k).map PV ++ [PV (b, off + k)] := by rw [eps_succ]; simp
        rw [e, ← List.length_map (f := PV), e]
        exact ho'
      have HB' := Lib.hid (hb1.grown hgr hb1.size (fun j hj => (hown.lt j hj).1))
      clear hr ho' hgr hown hb1 hz
      unfold PV at HR
      go_wp2_with (at_builtin; refine Lib.wpList_append_run _ rfl _ _ _ _ rfl _ _ rfl rfl _ _ HR.out ?_)
      go_roundw
      case rel => exact ⟨k + 1, v', by omega, by go_num, rfl, HO', HB'⟩
      case measure => simp [intOf]; omega
    · obtain rfl : k = n := by omega
      go_wp2_with fail
      go_ret
      exact ⟨_, rfl, HO.out, HB.out⟩
end Go.Proofs.Ytfignanjelebaaa
