/- EntryBack, walked. -/
import Derived.Test.YtdlephffcbkalaaAwake
namespace Go.Proofs.Ytdlephffcbkalaa.entryBack
open Go.RowKit
set_option linter.unusedVariables false

theorem slot_at {b : List UInt8} {l : List Rw} {k : Nat} {r : Rw} (h : slots b = some l) (hr : l[k]? = some r) : enc r = some (prt b k) := by
  obtain ⟨h1, _, rfl⟩ := slots_some h
  have hk : k < nch b := by
    have := (List.getElem?_eq_some_iff.1 hr).1
    rwa [rws_len] at this
  obtain ⟨r', h2, h3⟩ := oks_get h1 hk
  rw [hr] at h3
  cases h3
  exact (dec_some h2).2.2
theorem slots_len {b : List UInt8} {l : List Rw} (h : slots b = some l) : b.length = 32 * l.length := by
  obtain ⟨h1, _, rfl⟩ := slots_some h
  rw [rws_len]
  exact oks_whole h1
theorem take_prt (b : List UInt8) (k : Nat) : b.take (32 * (k + 1)) = b.take (32 * k) ++ prt b k := by
  unfold prt
  rw [show 32 * (k + 1) = 32 * k + 32 by omega, List.take_add]
set_option maxRecDepth 20000 in
set_option maxHeartbeats 2000000 in
theorem walk (w : World) (A : Option Addr) (n c : Nat) (b : List UInt8) (hB : Bts w w.heap.size A n c b) (hn : n ≤ 140737488355328) :
    Calls Try.prog 6 #[.slice A n c] w fun e w' => e = .returned (.bool true) ∧ Below w.heap.size w w' := by
  have HSL := Lib.hid (slots_any hB (Nat.le_refl _) hn)
  have HB := Lib.hid hB
  have HBL : Hid (b.length = n) := hB.len
  clear hB
  cases hs : slots b with
  | none =>
    rw [hs] at HSL
    clear hs
    go_enter Try.func6, Try.ntmps6
    go_wp2_with fail
    refine HSL.out.mono ?_
    rintro e w1 ⟨rfl, hb1⟩
    go_wp2_with fail
    refine (awake_any _).mono ?_
    rintro e w2 ⟨rfl, hb2⟩
    go_wp2_with fail
    refine (awake_any _).mono ?_
    rintro e w3 ⟨rfl, hb3⟩
    have W3 := Lib.hid ((hb1.trans (hb2.mono hb1.size)).trans (hb3.mono (Nat.le_trans hb1.size hb2.size)))
    clear hb1 hb2 hb3
    go_wp2_with fail
    go_ret
    exact ⟨rfl, W3.out⟩
  | some l =>
    rw [hs] at HSL
    have HAT : ∀ k r, l[k]? = some r → Hid (enc r = some (prt b k)) := fun k r hr => slot_at hs hr
    have HLEN := Lib.hid (slots_len hs)
    have hl1 : 32 * l.length ≤ 140737488355328 := by rw [← HLEN.out, HBL.out]; exact hn
    have HTP : ∀ k, Hid (b.take (32 * (k + 1)) = b.take (32 * k) ++ prt b k) := take_prt b
    clear hs
    go_enter Try.func6, Try.ntmps6
    go_wp2_with fail
    refine HSL.out.mono ?_
    rintro e w1 ⟨v1, rfl, ho1, hb1⟩
    obtain ⟨A1, c1, rfl, hR1⟩ := ho1.rws
    have HR1 := Lib.hid hR1
    have W1 := Lib.hid hb1
    have hlim1 := hR1.lim
    have hcap1 := hR1.cap
    unfold maxLen at hlim1
    clear ho1 hb1 hR1
    go_wp2_with fail
    refine (awake_any _).mono ?_
    rintro e w2 ⟨rfl, hb2⟩
    have HR2 := Lib.hid (HR1.out.below hb2)
    have W2 := Lib.hid (W1.out.trans (hb2.mono W1.out.size))
    have hz2 := hb2.size
    clear hb2 HR1 W1
    generalize hm : l.length = m at *
    go_wp2_with fail
    go_loopw [5, 6] (fun u i wr => ∃ k : Nat, ∃ v : Value, k ≤ m ∧ i = .int .i64 k ∧ u = v ∧ Hid (wr.ownsRow w2.heap.size 5 1 v (b.take (32 * k)).length ((b.take (32 * k)).map bv)) ∧ Hid (Below w2.heap.size w2 wr)) (fun _ i _ => m - (intOf i).toNat)
    case atStart =>
      refine ⟨0, _, Nat.zero_le _, rfl, rfl, ?_, box_below _ _⟩
      exact World.ownsRow_made (e := 5) (size := 1) (base := w2.heap.size) w2 #[] 0 (Nat.le_refl _) (by decide) (by rfl)
    case round =>
      obtain ⟨k, v, hk, rfl, hu, HO, HW⟩ := hrel
      obtain rfl := hu.symm
      by_cases hlt : k < m
      · obtain ⟨bb, off, r, rfl, hbb, hr, hc0, hc1⟩ := (HR2.out.below (HW.out.mono hz2)).get hlt
        obtain ⟨a, x⟩ := r
        have HEN := HAT k _ hr
        dsimp only at hc0 hc1
        clear hr
        have HCE : Hid (Calls Try.prog 8 #[.agg #[.string (bs a), .int .i64 x]] wr (EncP wr (some (prt b k)))) := by
          show Calls _ _ _ _ _
          rw [← HEN.out]
          exact enc_any a x wr
        go_wp2_with fail
        refine HCE.out.mono ?_
        rintro e w3 ⟨g, rfl, hby, hg, hb3⟩
        have ho3 : w3.ownsRow w2.heap.size 5 1 v (b.take (32 * k)).length ((b.take (32 * k)).map bv) := ownsRow_keep HO.out fun q hq => hb3.block q (HO.out.lt q hq).2
        have hlk : (b.take (32 * k)).length + (prt b k).length ≤ 140737488355328 := by
          rw [← List.length_append, ← (HTP k).out, List.length_take]
          omega
        obtain ⟨v', w', hrun, ho4, hgr⟩ := app_run (ty := 24) ho3 hby hlk (Nat.le_trans HW.out.size hb3.size)
        rw [← (HTP k).out] at ho4
        have HO4 := Lib.hid ho4
        have HW4 : Hid (Below w2.heap.size w2 w') := (HW.out.trans (hb3.mono HW.out.size)).grown hgr (Nat.le_trans HW.out.size hb3.size) fun j hj => (ho3.lt j hj).1
        have HRUN := Lib.hid hrun
        clear hby hg hb3 ho3 hlk hrun ho4 hgr HCE
        go_wp2_with (at_builtin; refine Lib.wpList_append_run _ rfl _ _ _ _ rfl _ _ rfl rfl _ _ HRUN.out ?_)
        go_roundw
        case rel => exact ⟨k + 1, v', by omega, by go_num, rfl, HO4, HW4⟩
        case measure => simp [intOf]; omega
      · obtain rfl : m = k := by omega
        have ho := HO.out
        rw [List.take_of_length_le (by rw [HLEN.out]; omega)] at ho
        obtain ⟨A5, n5, c5, rfl, hB5⟩ := own_holds ho
        have cv1 := fstr hB5 wr (Below.refl _ _)
        have W5 := Lib.hid (W2.out.trans (HW.out.mono W2.out.size))
        have cv2 := fstr HB.out wr W5.out
        have hsb : ((bs b).toList == (bs b).toList) = true := by simp
        clear ho hB5 HO
        go_wp2_with fail
        go_ret
        exact ⟨rfl, W5.out⟩
end Go.Proofs.Ytdlephffcbkalaa.entryBack
