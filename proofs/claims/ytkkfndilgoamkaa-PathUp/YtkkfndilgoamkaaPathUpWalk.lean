/- PathUp, walked: it returns true. -/
import Derived.Test.YtkkfndilgoamkaaAwake
namespace Go.Proofs.Ytkkfndilgoamkaa.pathUp
open Go.RowKit
set_option linter.unusedVariables false

/-- What is known where Last has no error. -/
structure Ups (s : List UInt8) (m : List (List UInt8)) (x : List UInt8) : Prop where
  e : (split s).2 = 0
  ns : (split s).1 = m ++ [x]
  lastA : lastA s = joinL m
  lastN : lastN s = x
  clean : cleanS s = joinL (m ++ [x])
  up : split (joinL m ++ 47 :: x) = (m ++ [x], 0)
  upS : cleanS (joinL m ++ 47 :: x) = joinL (m ++ [x])
  inE : withinE s (joinL m) = 0
  inR : withinR s (joinL m) = true
  name : nameB x = true
  len : (joinL m).length + x.length ≤ 200
theorem ups (s : List UInt8) (h : lastE s = 0) : ∃ m x, Ups s m x := by
  have h0 : (split s).2 = 0 := by
    unfold lastE at h
    split at h
    · exact absurd h ‹_›
    · exact Classical.not_not.1 ‹_›
  have h1 : (split s).1 ≠ [] := by
    intro e
    unfold lastE at h
    rw [if_neg (by simpa using h0), if_pos e] at h
    cases h
  have hA : lastA s = joinL (split s).1.dropLast := by unfold lastA; rw [if_pos h]
  have hN : lastN s = (split s).1.getLastD [] := by unfold lastN; rw [if_pos h]
  have hC : cleanS s = joinL (split s).1 := by unfold cleanS; rw [if_pos h0]
  have hU := split_up s h0 h1
  have hg := split_good s
  have hlen := split_len s h0
  have hd := join_dropLast s h0
  have hE : (split s).1 = (split s).1.dropLast ++ [(split s).1.getLast h1] := (List.dropLast_concat_getLast h1).symm
  generalize hx : (split s).1.getLast h1 = x at *
  generalize hm : (split s).1.dropLast = m at *
  have hla : (split s).1.getLastD [] = x := by rw [hE, List.getLastD_concat]
  have hall := hg.1
  rw [hE, List.all_append] at hall
  simp only [List.all_cons, List.all_nil, Bool.and_true, Bool.and_eq_true] at hall
  have hml : m.length ≤ 8 := by
    have := hg.2
    rw [hE, List.length_append] at this
    omega
  have hjm : (joinL m).length ≤ 96 := by
    have := hd.1
    unfold joinE at this
    rw [if_neg (by omega), if_neg (by rw [hall.1]; decide)] at this
    split at this
    · cases this
    · omega
  have hsm := split_joinL m hall.1 hml hjm
  have hxl := (name_parts hall.2).2.2.2.2
  have hwE : withinE s (joinL m) = 0 := by
    unfold withinE
    rw [if_neg (by simpa using h0), hsm]
  refine ⟨m, x, h0, hE, hA, by rw [hN, hla], by rw [hC, ← hE], by rw [hU, ← hE], ?_, hwE, ?_, hall.2, by omega⟩
  · unfold cleanS
    rw [hU, if_pos rfl, ← hE]
  · unfold withinR
    rw [if_pos hwE, hsm]
    have := within_up (split s).1 h1
    rwa [hm] at this
set_option maxHeartbeats 4000000 in
set_option maxRecDepth 100000 in
theorem walkL (w : World) (s : List UInt8) : Calls Try.prog 8 #[.string (bs s)] w fun e w' => e = .returned (.bool true) ∧ Below w.heap.size w w' := by
  go_enter Try.func8, Try.ntmps8
  go_wp2_with fail
  refine (last_any s w).mono ?_
  rintro e w1 ⟨rfl, hb1⟩
  have B1 := Lib.hid hb1
  have hz1 := hb1.size
  clear hb1
  go_wp2_with fail
  refine (awake_any w1).mono ?_
  rintro e w2 ⟨rfl, hb2⟩
  have B2 := Lib.hid (B1.out.trans (hb2.mono hz1))
  have hz2 := hb2.size
  clear B1 hb2
  by_cases h0 : lastE s = 0
  · obtain ⟨m, x, hU⟩ := ups s h0
    have U := Lib.hid hU
    rw [hU.lastA, hU.lastN, h0]
    clear hU h0
    have q1 : (bs (joinL m)).size + (bs x).size ≤ 200 := by rw [bs_size, bs_size]; exact U.out.len
    have q2 : bs (joinL m) ++ (⟨#[47]⟩ : ByteArray) ++ bs x = bs (joinL m ++ 47 :: x) := by
      rw [show (⟨#[47]⟩ : ByteArray) = bs [47] from rfl, bs_app, bs_app]
      simp
    have Q2 := Lib.hid q2
    clear q2
    go_wp2_with fail
    refine (clean_any s w2).mono ?_
    rintro e w3 ⟨rfl, hb3⟩
    rw [U.out.clean, U.out.e]
    have B3 := Lib.hid (B2.out.trans (hb3.mono (by omega)))
    have hz3 := hb3.size
    clear B2 hb3
    go_wp2_with fail
    rw [Q2.out]
    refine (clean_any (joinL m ++ 47 :: x) w3).mono ?_
    rintro e w4 ⟨rfl, hb4⟩
    rw [U.out.upS, U.out.up]
    have B4 := Lib.hid (B3.out.trans (hb4.mono (by omega)))
    have hz4 := hb4.size
    clear B3 hb4
    go_wp2_with fail
    refine (within_any s (joinL m) w4).mono ?_
    rintro e w5 ⟨rfl, hb5⟩
    rw [U.out.inR, U.out.inE]
    have B5 := Lib.hid (B4.out.trans (hb5.mono (by omega)))
    have hz5 := hb5.size
    clear B4 hb5
    have HN := Lib.hid U.out.name
    generalize joinL (m ++ [x]) = j at *
    go_wp2_with fail
    refine (pathName_any (bs x) w5).mono ?_
    rintro e w6 ⟨rfl, hb6⟩
    rw [bs_data, HN.out]
    go_wp2
    go_ret
    exact ⟨rfl, B5.out.trans (hb6.mono (by omega))⟩
  · generalize lastE s = x at *
    have hx : (x == 0) = false := by simpa using h0
    go_wp2_with fail
    refine (awake_any w2).mono ?_
    rintro e w3 ⟨rfl, hb3⟩
    go_wp2
    go_ret
    exact ⟨rfl, B2.out.trans (hb3.mono (by omega))⟩
theorem walk (w : World) (s : ByteArray) : Calls Try.prog 8 #[.string s] w fun e w' => e = .returned (.bool true) ∧ Below w.heap.size w w' := by
  have := walkL w s.data.toList
  rwa [data_bs] at this
end Go.Proofs.Ytkkfndilgoamkaa.pathUp
