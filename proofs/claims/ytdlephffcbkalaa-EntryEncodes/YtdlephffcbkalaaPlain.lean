/- Plain mathematics: names, entries, the entries of bytes. -/
namespace Go.Proofs.Ytdlephffcbkalaa
set_option linter.unusedVariables false

/-- May a name have it? -/
def signB (b : UInt8) : Bool := (decide (97 ≤ b) && decide (b ≤ 122)) || (decide (65 ≤ b) && decide (b ≤ 90)) || (decide (48 ≤ b) && decide (b ≤ 57)) || b == 46 || b == 95 || b == 45
/-- A name. -/
def nameB (l : List UInt8) : Bool := decide (1 ≤ l.length) && decide (l.length ≤ 24) && l != [46] && l != [46, 46] && l.all signB
/-- An entry: its name and its number. -/
abbrev Rw := List UInt8 × Int
def emp : Rw := ([], 0)
def sound (r : Rw) : Bool := nameB r.1 && decide (1 ≤ r.2) && decide (r.2 ≤ 31)
/-- An entry's bytes. -/
def raw (nm : List UInt8) (x : UInt8) : List UInt8 := UInt8.ofNat nm.length :: (nm ++ List.replicate (24 - nm.length) 0 ++ [x, 0] ++ List.replicate 5 0)
def z32 : List UInt8 := List.replicate 32 0
def enc (r : Rw) : Option (List UInt8) := if r = emp then some z32 else if sound r = true then some (raw r.1 (UInt8.ofNat r.2.toNat)) else none
/-- What the bytes would say, if they are an entry's. -/
def cand (b : List UInt8) : Rw := ((b.drop 1).take (b[0]?.getD 0).toNat, (((b[25]?.getD 0).toNat + 256 * (b[26]?.getD 0).toNat : Nat) : Int))
def fits (b : List UInt8) : Bool := decide (b.length = 32) && decide ((b[0]?.getD 0).toNat ≤ 24)
def dec (b : List UInt8) : Option Rw := if fits b = true then if enc (cand b) = some b then some (cand b) else none else none

theorem name_len {l : List UInt8} (h : nameB l = true) : 1 ≤ l.length ∧ l.length ≤ 24 := by
  simp only [nameB, Bool.and_eq_true, decide_eq_true_eq] at h
  exact ⟨h.1.1.1.1, h.1.1.1.2⟩
theorem sound_iff {r : Rw} : sound r = true ↔ nameB r.1 = true ∧ 1 ≤ r.2 ∧ r.2 ≤ 31 := by
  simp only [sound, Bool.and_eq_true, decide_eq_true_eq, and_assoc]
theorem name_ne {l : List UInt8} (h : nameB l = true) : l ≠ [] := by
  intro e
  have := (name_len h).1
  rw [e] at this
  simp at this
theorem sound_ne {r : Rw} (h : sound r = true) : r ≠ emp := by
  intro e
  exact name_ne (sound_iff.1 h).1 (by rw [e]; rfl)
theorem enc_emp : enc emp = some z32 := rfl
theorem enc_yes {r : Rw} (h : sound r = true) : enc r = some (raw r.1 (UInt8.ofNat r.2.toNat)) := by
  unfold enc
  rw [if_neg (sound_ne h), if_pos h]
theorem enc_no {r : Rw} (h1 : r ≠ emp) (h2 : sound r = false) : enc r = none := by
  unfold enc
  rw [if_neg h1, if_neg (by rw [h2]; decide)]
theorem raw_len {nm : List UInt8} {x : UInt8} (h : nm.length ≤ 24) : (raw nm x).length = 32 := by
  simp [raw]
  omega
theorem raw_cand {nm : List UInt8} {x : UInt8} (h : nm.length ≤ 24) : cand (raw nm x) = (nm, (x.toNat : Int)) := by
  have h0 : ((raw nm x)[0]?.getD 0).toNat = nm.length := by
    simp [raw]
    omega
  have h25 : (raw nm x)[25]?.getD 0 = x := by
    simp only [raw, List.getElem?_cons_succ, List.append_assoc]
    rw [List.getElem?_append_right (by omega), List.getElem?_append_right (by simp), List.length_replicate, show 24 - nm.length - (24 - nm.length) = 0 by omega]
    rfl
  have h26 : (raw nm x)[26]?.getD 0 = 0 := by
    simp only [raw, List.getElem?_cons_succ, List.append_assoc]
    rw [List.getElem?_append_right (by omega), List.getElem?_append_right (by simp; omega), List.length_replicate, show 25 - nm.length - (24 - nm.length) = 1 by omega]
    rfl
  unfold cand
  rw [h0, h25, h26]
  simp [raw, List.append_assoc]
theorem dec_raw {nm : List UInt8} {x : UInt8} (h : nm.length ≤ 24) (he : enc (nm, (x.toNat : Int)) = some (raw nm x)) : dec (raw nm x) = some (nm, (x.toNat : Int)) := by
  unfold dec fits
  have h0 : ((raw nm x)[0]?.getD 0).toNat = nm.length := by
    simp [raw]
    omega
  rw [raw_len h, h0, raw_cand h, he]
  simp [h]
theorem dec_enc {r : Rw} {x : List UInt8} (h : enc r = some x) : dec x = some r := by
  by_cases h1 : r = emp
  · subst h1
    rw [enc_emp] at h
    cases h
    rfl
  · cases h2 : sound r with
    | false => rw [enc_no h1 h2] at h; cases h
    | true =>
      have he := enc_yes h2
      rw [he] at h
      cases h
      obtain ⟨n1, n2, n3⟩ := sound_iff.1 h2
      have hx : ((UInt8.ofNat r.2.toNat).toNat : Int) = r.2 := by
        rw [UInt8.toNat_ofNat']
        omega
      have := dec_raw (x := UInt8.ofNat r.2.toNat) (name_len n1).2 (by rw [hx]; exact he)
      rw [this, hx]
theorem dec_some {b : List UInt8} {r : Rw} (h : dec b = some r) : fits b = true ∧ cand b = r ∧ enc r = some b := by
  unfold dec at h
  split at h
  · split at h
    · cases h
      rename_i h1 h2
      exact ⟨h1, rfl, h2⟩
    · cases h
  · cases h
theorem enc_len {r : Rw} {x : List UInt8} (h : enc r = some x) : x.length = 32 := by
  have := (dec_some (dec_enc h)).1
  simp only [fits, Bool.and_eq_true, decide_eq_true_eq] at this
  exact this.1
theorem dec_len {b : List UInt8} {r : Rw} (h : dec b = some r) : b.length = 32 := enc_len (dec_some h).2.2
theorem dec_short {b : List UInt8} (h : b.length ≠ 32) : dec b = none := by
  cases e : dec b with
  | none => rfl
  | some r => exact absurd (dec_len e) h

/-- The names of entries that have one. -/
def nms (l : List Rw) : List (List UInt8) := (l.map (·.1)).filter fun s => decide (s ≠ [])
def srt (l : List (List UInt8)) : List (List UInt8) := l.mergeSort fun x y => decide (x ≤ y)
theorem nms_snoc (l : List Rw) (r : Rw) : nms (l ++ [r]) = nms l ++ if r.1 = [] then [] else [r.1] := by
  unfold nms
  rw [List.map_append, List.filter_append]
  congr 1
  by_cases h : r.1 = [] <;> simp [h]
theorem mem_nms {l : List Rw} {s : List UInt8} : s ∈ nms l ↔ s ≠ [] ∧ ∃ r ∈ l, r.1 = s := by
  unfold nms
  simp only [List.mem_filter, List.mem_map, decide_eq_true_eq]
  exact ⟨fun h => ⟨h.2, h.1⟩, fun h => ⟨h.2, h.1⟩⟩
theorem nms_len (l : List Rw) : (nms l).length ≤ l.length := by
  unfold nms
  refine Nat.le_trans (List.length_filter_le _ _) ?_
  rw [List.length_map]
  exact Nat.le_refl _
theorem srt_len (l : List (List UInt8)) : (srt l).length = l.length := by
  unfold srt
  exact List.length_mergeSort _
theorem srt_perm (l : List (List UInt8)) : (srt l).Perm l := List.mergeSort_perm _ _
theorem le_tot (a b : List UInt8) : a ≤ b ∨ b ≤ a := Std.Total.total a b
theorem srt_sorted (l : List (List UInt8)) : (srt l).Pairwise (· ≤ ·) := by
  have h := List.pairwise_mergeSort (le := fun x y : List UInt8 => decide (x ≤ y)) (fun a b c h1 h2 => by
    simp only [decide_eq_true_eq] at *
    exact List.le_trans h1 h2) (fun a b => by
    simp only [Bool.or_eq_true, decide_eq_true_eq]
    exact le_tot a b) l
  exact h.imp fun h => by simpa using h
theorem sorted_eq {a b : List (List UInt8)} (ha : a.Pairwise (· ≤ ·)) (hb : b.Pairwise (· ≤ ·)) (h : a.Perm b) : a = b :=
  List.Perm.eq_of_pairwise (fun x y _ _ h1 h2 => List.le_antisymm h1 h2) ha hb h
theorem sorted_srt {a b : List (List UInt8)} (ha : a.Pairwise (· ≤ ·)) (h : a.Perm b) : a = srt b := sorted_eq ha (srt_sorted b) (h.trans (srt_perm b).symm)

/-- One part of bytes. -/
def prt (b : List UInt8) (k : Nat) : List UInt8 := (b.drop (32 * k)).take 32
def nch (b : List UInt8) : Nat := (b.length + 31) / 32
/-- The first k entries, where each is one. -/
def rws (b : List UInt8) (k : Nat) : List Rw := (List.range k).map fun i => (dec (prt b i)).getD emp
def oks (b : List UInt8) (k : Nat) : Bool := (List.range k).all fun i => (dec (prt b i)).isSome
def slots (b : List UInt8) : Option (List Rw) := if oks b (nch b) = true ∧ (nms (rws b (nch b))).Nodup then some (rws b (nch b)) else none
theorem rws_succ (b : List UInt8) (k : Nat) : rws b (k + 1) = rws b k ++ [(dec (prt b k)).getD emp] := by
  unfold rws
  rw [List.range_succ, List.map_append]
  rfl
theorem rws_len (b : List UInt8) (k : Nat) : (rws b k).length = k := by simp [rws]
theorem oks_succ (b : List UInt8) (k : Nat) : oks b (k + 1) = (oks b k && (dec (prt b k)).isSome) := by
  unfold oks
  rw [List.range_succ, List.all_append]
  simp
theorem oks_mono {b : List UInt8} {k m : Nat} (h : oks b m = true) (hk : k ≤ m) : oks b k = true := by
  unfold oks at *
  rw [List.all_eq_true] at *
  intro i hi
  rw [List.mem_range] at hi
  exact h i (by rw [List.mem_range]; omega)
theorem prt_len {b : List UInt8} {k : Nat} : (prt b k).length = min 32 (b.length - 32 * k) := by
  unfold prt
  rw [List.length_take, List.length_drop]
theorem oks_get {b : List UInt8} {m k : Nat} (h : oks b m = true) (hk : k < m) : ∃ r, dec (prt b k) = some r ∧ (rws b m)[k]? = some r := by
  have h1 := oks_mono h (k := k + 1) (by omega)
  rw [oks_succ, Bool.and_eq_true] at h1
  obtain ⟨r, hr⟩ := Option.isSome_iff_exists.1 h1.2
  refine ⟨r, hr, ?_⟩
  unfold rws
  rw [List.getElem?_map, List.getElem?_range hk]
  simp [hr]
theorem slots_oks {b : List UInt8} (h : oks b (nch b) = false) : slots b = none := by
  unfold slots
  rw [if_neg]
  rintro ⟨h1, _⟩
  rw [h] at h1
  cases h1
theorem slots_dup {b : List UInt8} (h : ¬ (nms (rws b (nch b))).Nodup) : slots b = none := by
  unfold slots
  rw [if_neg]
  rintro ⟨_, h1⟩
  exact h h1
theorem slots_yes {b : List UInt8} (h : oks b (nch b) = true) (hn : (nms (rws b (nch b))).Nodup) : slots b = some (rws b (nch b)) := by
  unfold slots
  rw [if_pos ⟨h, hn⟩]
theorem slots_some {b : List UInt8} {l : List Rw} (h : slots b = some l) : oks b (nch b) = true ∧ (nms l).Nodup ∧ l = rws b (nch b) := by
  unfold slots at h
  split at h
  · cases h
    rename_i h
    exact ⟨h.1, h.2, rfl⟩
  · cases h
theorem oks_whole {b : List UInt8} (h : oks b (nch b) = true) : b.length = 32 * nch b := by
  by_cases h0 : b.length = 0
  · unfold nch
    omega
  · obtain ⟨r, hr, _⟩ := oks_get (k := nch b - 1) h (by unfold nch; omega)
    have := dec_len hr
    rw [prt_len] at this
    unfold nch at *
    omega
end Go.Proofs.Ytdlephffcbkalaa
