/- path.Clean, Last, Within, walked. -/
import Derived.Test.YtkkfndilgoamkaaJoin
namespace Go.Proofs.Ytkkfndilgoamkaa
open Go.RowKit
set_option linter.unusedVariables false

def cleanS (s : List UInt8) : List UInt8 := if (split s).2 = 0 then joinL (split s).1 else []
theorem split_range (s : List UInt8) : 0 ≤ (split s).2 ∧ (split s).2 ≤ 17 := by
  have hg : ∀ ps ns, 0 ≤ (goes ns ps).2 ∧ (goes ns ps).2 ≤ 17 := by
    intro ps
    induction ps with
    | nil => intro ns; simp [goes]
    | cons p ps ih =>
      intro ns
      unfold goes
      split
      · exact ih _
      · split
        · exact ih _
        · split
          · simp
          · split
            · simp
            · exact ih _
  unfold split
  split
  · simp
  · split
    · simp
    · split
      · exact hg _ _
      · simp
set_option maxHeartbeats 1000000 in
theorem clean_any (s : List UInt8) (w : World) : Calls Try.prog 18 #[.string (bs s)] w (Joins w (cleanS s) (split s).2) := by
  go_enter Try.func18, Try.ntmps18
  go_wp2_with fail
  refine (split_any s w).mono ?_
  rintro e w1 ⟨A, c, rfl, hs, hb⟩
  have HS := Lib.hid hs
  have HB := Lib.hid hb
  have hz := hb.size
  clear hs hb
  by_cases h0 : (split s).2 = 0
  · have HC : Hid (cleanS s = joinL (split s).1) := by show _ = _; unfold cleanS; rw [if_pos h0]
    have HJ := Lib.hid (joinS_split s h0)
    have HE := Lib.hid (joinE_split s h0)
    have H0 := Lib.hid h0
    rw [h0]
    clear h0
    generalize (split s).1 = ns at *
    go_wp2_with fail
    refine (pathJoin_any _ _ _ _ ns w1 HS.out (Nat.le_refl _)).mono ?_
    rintro e w2 ⟨rfl, hb2⟩
    rw [HJ.out, HE.out]
    go_wp2
    go_ret2
    rw [HC.out, H0.out]
    exact ⟨rfl, HB.out.trans (hb2.mono hz)⟩
  · have HC : Hid (cleanS s = []) := by show _ = _; unfold cleanS; rw [if_neg h0]
    generalize (split s).2 = x at *
    have hx : (x == 0) = false := by simpa using h0
    go_wp2
    go_ret2
    rw [HC.out]
    exact ⟨rfl, HB.out⟩
def lastE (s : List UInt8) : Int := if (split s).2 ≠ 0 then (split s).2 else if (split s).1 = [] then 13 else 0
def lastA (s : List UInt8) : List UInt8 := if lastE s = 0 then joinL (split s).1.dropLast else []
def lastN (s : List UInt8) : List UInt8 := if lastE s = 0 then (split s).1.getLastD [] else []
theorem join_dropLast (s : List UInt8) (h : (split s).2 = 0) : joinE (split s).1.dropLast = 0 ∧ joinS (split s).1.dropLast = joinL (split s).1.dropLast := by
  have h1 := split_good s
  have h2 := split_len s h
  have h3 : joinE (split s).1.dropLast = 0 := by
    generalize (split s).1 = ns at *
    have ha : ns.dropLast.all nameB = true := by
      rw [List.all_eq_true] at *
      exact fun x hx => h1.1 x (List.dropLast_subset _ hx)
    have hj : (joinL ns.dropLast).length ≤ 96 := by
      unfold joinL
      split
      · simp
      · rename_i hd
        have hne : ns ≠ [] := fun e => hd (by rw [e]; rfl)
        have := joinT_dropLast ns
        unfold joinL at h2
        rw [if_neg hne] at h2
        omega
    unfold joinE
    rw [if_neg (by rw [List.length_dropLast]; omega), if_neg (by rw [ha]; decide), if_neg (by omega)]
  refine ⟨h3, ?_⟩
  unfold joinS
  rw [if_pos h3]
/-- Two texts and an error. -/
def Lasts (w : World) (t u : List UInt8) (x : Int) (e : Ending) (w' : World) : Prop := e = .returned (.tuple #[.string (bs t), .string (bs u), .int .i64 x]) ∧ Below w.heap.size w w'
set_option maxHeartbeats 1000000 in
theorem last_any (s : List UInt8) (w : World) : Calls Try.prog 19 #[.string (bs s)] w (Lasts w (lastA s) (lastN s) (lastE s)) := by
  go_enter Try.func19, Try.ntmps19
  go_wp2_with fail
  refine (split_any s w).mono ?_
  rintro e w1 ⟨A, c, rfl, hs, hb⟩
  have HS := Lib.hid hs
  have HB := Lib.hid hb
  have hz := hb.size
  clear hs hb
  by_cases h0 : (split s).2 = 0
  · by_cases h1 : (split s).1 = []
    · have HE : Hid (lastE s = 13) := by show _ = _; unfold lastE; rw [if_neg (by simpa using h0), if_pos h1]
      have HA : Hid (lastA s = []) := by show _ = _; unfold lastA; rw [if_neg (by rw [HE.out]; decide)]
      have HN : Hid (lastN s = []) := by show _ = _; unfold lastN; rw [if_neg (by rw [HE.out]; decide)]
      rw [h0, h1]
      clear h0 h1
      go_wp2
      go_ret3
      rw [HE.out, HA.out, HN.out]
      exact ⟨rfl, HB.out⟩
    · have HE : Hid (lastE s = 0) := by show _ = _; unfold lastE; rw [if_neg (by simpa using h0), if_neg h1]
      have HA : Hid (lastA s = joinL (split s).1.dropLast) := by show _ = _; unfold lastA; rw [if_pos HE.out]
      have HN : Hid (lastN s = (split s).1.getLastD []) := by show _ = _; unfold lastN; rw [if_pos HE.out]
      obtain ⟨j1, j2⟩ := join_dropLast s h0
      have J1 := Lib.hid j1
      have J2 := Lib.hid j2
      rw [h0]
      clear h0 j1 j2
      generalize (split s).1 = ns at *
      obtain ⟨m, x, rfl⟩ : ∃ m x, ns = m ++ [x] := ⟨ns.dropLast, ns.getLast h1, (List.dropLast_concat_getLast h1).symm⟩
      have hlen : (m ++ [x]).length = m.length + 1 := by simp
      rw [hlen] at HS ⊢
      have HD : Hid (Strs w1 w1.heap.size A m.length c m) := by
        have := HS.out.head (s := m.length) (by omega)
        rwa [List.take_left] at this
      have hcap := HS.out.cap
      have hlim := HS.out.lim
      unfold maxLen at hlim
      rw [List.dropLast_concat] at HA J1 J2
      rw [List.getLastD_concat] at HN
      clear hlen h1
      go_wp2_with fail
      refine (pathJoin_any _ _ _ _ m w1 HD.out (Nat.le_refl _)).mono ?_
      rintro e w2 ⟨rfl, hb2⟩
      rw [J1.out, J2.out]
      obtain ⟨b, off, rfl, hbb, hcell⟩ := (HS.out.below hb2).cell (k := m.length) (by omega)
      have hx : (m ++ [x])[m.length]?.getD [] = x := by simp
      rw [hx] at hcell
      clear hx
      go_wp2
      go_quiet (fail)
      go_wp2
      go_ret3
      rw [HE.out, HA.out, HN.out]
      exact ⟨rfl, below_drewN (HB.out.trans (hb2.mono hz)) _⟩
  · have HE : Hid (lastE s = (split s).2) := by show _ = _; unfold lastE; rw [if_pos h0]
    have HA : Hid (lastA s = []) := by show _ = _; unfold lastA; rw [if_neg (by rw [HE.out]; exact h0)]
    have HN : Hid (lastN s = []) := by show _ = _; unfold lastN; rw [if_neg (by rw [HE.out]; exact h0)]
    generalize (split s).2 = x at *
    have hx : (x == 0) = false := by simpa using h0
    go_wp2
    go_ret3
    rw [HE.out, HA.out, HN.out]
    exact ⟨rfl, HB.out⟩
theorem map_bs {l l' : List (List UInt8)} : l.map bs = l'.map bs ↔ l = l' := by
  constructor
  · intro h
    have := congrArg (List.map (·.data.toList)) h
    rw [List.map_map, List.map_map] at this
    have e : ∀ l : List (List UInt8), l.map ((·.data.toList) ∘ bs) = l := fun l => List.map_id _
    rwa [e, e] at this
  · rintro rfl
    rfl
theorem equal_any (A A' : Option Addr) (n c c' B : Nat) (l l' : List (List UInt8)) (w : World) (h : Strs w B A n c l) (h' : Strs w B A' n c' l') :
    Calls Try.prog 27 #[.slice A n c, .slice A' n c'] w fun e w' => e = .returned (.bool (decide (l = l'))) ∧ Below w.heap.size w w' := by
  have hlim := h.lim
  have hcap := h.cap
  unfold maxLen at hlim
  rcases Nat.eq_zero_or_pos n with h0 | h0
  · subst h0
    refine (Try.slices_Equal_string_empty A A' c 0 c' w (by omega)).mono ?_
    rintro e w' ⟨rfl, rfl⟩
    refine ⟨retb ?_, Below.refl _ _⟩
    rw [List.length_eq_zero_iff.1 h.len, List.length_eq_zero_iff.1 h'.len]
    rfl
  · obtain ⟨b, off, rfl, hb, hc⟩ := h.at_ h0
    obtain ⟨b', off', rfl, hb', hc'⟩ := h'.at_ h0
    have e1 : ∀ (l : List (List UInt8)) j, j < l.length → (l.map bs).getD j ByteArray.empty = bs (l[j]?.getD []) := by
      intro l j hj
      rw [List.getD_eq_getElem?_getD, List.getElem?_map, List.getElem?_eq_getElem hj]
      rfl
    have hl := h.len
    have hl' := h'.len
    refine (Try.slices_Equal_string b off n c b' off' n c' (l.map bs) (l'.map bs) w (by simp; omega) (by simp; omega) (by omega) (by omega) (fun j hj => ?_) (fun j hj => ?_)).mono ?_
    · rw [List.length_map] at hj
      rw [e1 l j hj, hc j (by omega)]
    · rw [List.length_map] at hj
      rw [e1 l' j hj, hc' j (by omega)]
    · rintro e w' ⟨rfl, q, rfl⟩
      refine ⟨retb ?_, below_drewN (Below.refl _ _) _⟩
      rw [List.take_of_length_le (by simp; omega), List.take_of_length_le (by simp; omega)]
      simp only [map_bs]
def withinE (s t : List UInt8) : Int := if (split s).2 ≠ 0 then (split s).2 else (split t).2
def withinR (s t : List UInt8) : Bool := if withinE s t = 0 then withinB (split s).1 (split t).1 else false
/-- A flag and an error. -/
def Withins (w : World) (b : Bool) (x : Int) (e : Ending) (w' : World) : Prop := e = .returned (.tuple #[.bool b, .int .i64 x]) ∧ Below w.heap.size w w'
set_option maxHeartbeats 1000000 in
theorem within_any (s t : List UInt8) (w : World) : Calls Try.prog 20 #[.string (bs s), .string (bs t)] w (Withins w (withinR s t) (withinE s t)) := by
  go_enter Try.func20, Try.ntmps20
  go_wp2_with fail
  refine (split_any s w).mono ?_
  rintro e w1 ⟨A, c, rfl, hs, hb⟩
  have HS := Lib.hid hs
  have HB := Lib.hid hb
  have hz := hb.size
  clear hs hb
  by_cases h0 : (split s).2 = 0
  · have H0 := Lib.hid h0
    have HE : Hid (withinE s t = (split t).2) := by show _ = _; unfold withinE; rw [if_neg (by simpa using h0)]
    rw [h0]
    clear h0
    go_wp2_with fail
    refine (split_any t w1).mono ?_
    rintro e w2 ⟨A', c', rfl, hs', hb'⟩
    have HS' := Lib.hid hs'
    have HS1 := Lib.hid ((HS.out.below hb').more hb'.size)
    have HB' := Lib.hid (HB.out.trans (hb'.mono hz))
    have hz' := hb'.size
    clear hs' hb'
    by_cases h1 : (split t).2 = 0
    · have H1 : Hid (withinE s t = 0) := by show _ = _; rw [HE.out, h1]
      have HR : Hid (withinR s t = withinB (split s).1 (split t).1) := by show _ = _; unfold withinR; rw [if_pos H1.out]
      rw [h1]
      clear h1
      have hcap := HS1.out.cap
      have hlim := HS1.out.lim
      have hcap' := HS'.out.cap
      have hlim' := HS'.out.lim
      unfold maxLen at hlim hlim'
      generalize (split s).1 = ns at *
      generalize (split t).1 = ms at *
      by_cases hlt : ms.length < ns.length
      · have HW : Hid (withinB ns ms = decide (ns.take ms.length = ms)) := by
          show _ = _
          unfold withinB
          simp [hlt]
          rw [Bool.eq_iff_iff]
          simp
        have HD := Lib.hid (HS1.out.head (s := ms.length) (by omega))
        go_wp2_with fail
        refine (equal_any _ _ _ _ _ _ _ ms w2 HD.out HS'.out).mono ?_
        rintro e w3 ⟨rfl, hb3⟩
        rw [← HW.out]
        go_wp2
        go_ret2
        rw [H1.out, HR.out]
        exact ⟨rfl, HB'.out.trans (hb3.mono (Nat.le_trans hz hz'))⟩
      · have HW : Hid (withinB ns ms = false) := by
          show _ = _
          unfold withinB
          simp [hlt]
        go_wp2
        go_ret2
        rw [H1.out, HR.out, HW.out]
        exact ⟨rfl, HB'.out⟩
    · have HR : Hid (withinR s t = false) := by show _ = _; unfold withinR; rw [if_neg (by rw [HE.out]; exact h1)]
      generalize (split t).2 = x at *
      have hx : (x == 0) = false := by simpa using h1
      go_wp2
      go_ret2
      rw [HE.out, HR.out]
      exact ⟨rfl, HB'.out⟩
  · have HE : Hid (withinE s t = (split s).2) := by show _ = _; unfold withinE; rw [if_pos h0]
    have HR : Hid (withinR s t = false) := by show _ = _; unfold withinR; rw [if_neg (by rw [HE.out]; exact h0)]
    generalize (split s).2 = x at *
    have hx : (x == 0) = false := by simpa using h0
    go_wp2
    go_ret2
    rw [HE.out, HR.out]
    exact ⟨rfl, HB.out⟩
end Go.Proofs.Ytkkfndilgoamkaa
