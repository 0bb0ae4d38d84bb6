/- EntryEncodes, walked. -/
import Derived.Test.YtdlephffcbkalaaAwake
import Derived.Test.YtdlephffcbkalaaRefE
namespace Go.Proofs.Ytdlephffcbkalaa.entryEncodes
open Go.RowKit
set_option linter.unusedVariables false

/-- What string(x) is behind Encode. -/
theorem enc_str {w w' : World} {o : Option (List UInt8)} {e : Ending} {er : Int} (her : (if o = none then (2 : Int) else 0) = er) (h : EncP w o e w') : ∃ A n c, e = .returned (.tuple #[.slice A n c, .int .i64 er]) ∧ Bts w' w'.heap.size A n c (o.getD []) ∧ Below w.heap.size w w' := by
  subst her
  cases o with
  | none => exact ⟨none, 0, 0, h.1, Bts.nil_ _ _, h.2⟩
  | some b =>
    obtain ⟨g, h1, h2, h3, h4⟩ := h
    exact ⟨_, _, _, h1, h2, h4⟩
theorem refE_yes' {a : List UInt8} {x : Int} {b : List UInt8} (h : enc (a, x) = some b) (w : World) : Calls Try.prog 9 #[.agg #[.string (bs a), .int .i64 x]] w fun e w' => e = .returned (.tuple #[.string (bs b), .int .i64 0]) ∧ Below w.heap.size w w' := by
  have := refE_any a x w
  rw [h] at this
  exact this
set_option maxRecDepth 20000 in
set_option maxHeartbeats 4000000 in
theorem walk (w : World) (a : List UInt8) (x : Int) (A : Option Addr) (n c : Nat) (b : List UInt8) (hB : Bts w w.heap.size A n c b) :
    Calls Try.prog 3 #[.agg #[.string (bs a), .int .i64 x], .slice A n c] w fun e w' => e = .returned (.bool true) ∧ Below w.heap.size w w' := by
  obtain ⟨o, ho⟩ : ∃ o, enc (a, x) = o := ⟨_, rfl⟩
  obtain ⟨er, her⟩ : ∃ er : Int, (if o = none then (2 : Int) else 0) = er := ⟨_, rfl⟩
  have HE : ∀ W, Hid (Calls Try.prog 8 #[.agg #[.string (bs a), .int .i64 x]] W (EncP W o)) := fun W => by rw [← ho]; exact enc_any a x W
  have HRE : ∀ W, Hid (Calls Try.prog 9 #[.agg #[.string (bs a), .int .i64 x]] W fun e w' => e = .returned (.tuple #[.string (bs (o.getD [])), .int .i64 er]) ∧ Below W.heap.size W w') := fun W => by
    rw [← her, ← ho]
    exact refE_any a x W
  have HDE : ∀ y, o = some y → Hid (dec y = some (a, x)) := fun y h => dec_enc (ho.trans h)
  have HER := Lib.hid her
  have HO := Lib.hid ho
  clear ho her
  obtain ⟨q, hq⟩ : ∃ q, sound (a, x) = q := ⟨_, rfl⟩
  have HQ := Lib.hid hq
  clear hq
  obtain ⟨x1, x2, x3⟩ := box1 w (Obj.cells #[.string (bs a), .int .i64 x] 23)
  have X1 := Lib.hid x1
  have X2 := Lib.hid x2
  have XB := Lib.hid (hB.below x2)
  have hz : w.heap.size < (w.alloc (Obj.cells #[.string (bs a), .int .i64 x] 23)).heap.size := by rw [x3]; omega
  clear x1 x2 x3 hB
  go_enter Try.func3, Try.ntmps3
  go_upto_region 1 with fail
  generalize w.alloc (Obj.cells #[.string (bs a), .int .i64 x] 23) = V at *
  go_wp2_with (first | (refine wpList_load_row rfl 23 _ rfl w.heap.size rfl _ _ _ X1.out _ Try.underlying23 rfl s23 ?_) | fail)
  refine (HE V).out.mono ?_
  intro e w1 h1
  obtain ⟨A1, n1, c1, rfl, hx1, hb1⟩ := enc_str HER.out h1
  have X3 := Lib.hid ((hb1.block _ hz).trans X1.out)
  have XX := Lib.hid hx1
  have XB1 := Lib.hid (XB.out.below (hb1.mono (by omega)))
  have W1 := Lib.hid (X2.out.trans (hb1.mono X2.out.size))
  have hz1 := hb1.size
  clear h1 hx1 hb1 X1 X2 XB
  go_wp2_with (first | (refine wpList_load_row rfl 23 _ rfl w.heap.size rfl _ _ _ X3.out _ Try.underlying23 rfl s23 ?_) | fail)
  refine (HRE w1).out.mono ?_
  rintro e w2 ⟨rfl, hb2⟩
  have X4 := Lib.hid ((hb2.block _ (by omega)).trans X3.out)
  have XX2 := Lib.hid (XX.out.below hb2)
  have XB2 := Lib.hid (XB1.out.below (hb2.mono (by omega)))
  have W2 := Lib.hid (W1.out.trans (hb2.mono W1.out.size))
  have hz2 := hb2.size
  have hlt2 : w.heap.size < w2.heap.size := by omega
  clear hb2 X3 XX XB1 W1
  clear HE HRE
  have KS : ∀ U, Hid (Below w2.heap.size w2 U → (U.cell? ⟨w.heap.size, 0, none⟩ = some (.string (bs a)) ∧ U.cell? ⟨w.heap.size, 1, none⟩ = some (.int .i64 x)) ∧ (convert 24 9 (.slice A1 n1 c1)).run Try.prog U = .ok (.string (bs (o.getD []))) U) := fun U hU => ⟨⟨(hU.cell (p := ⟨w.heap.size, 0, none⟩) hlt2).trans (cell_in X4.out 0), (hU.cell (p := ⟨w.heap.size, 1, none⟩) hlt2).trans (cell_in X4.out 1)⟩, fstr XX2.out U (hU.mono hz2)⟩
  have HB : Hid (Below w2.heap.size w2 w2.drew) := (Below.refl _ _).drew
  have HSA : ∀ U, Hid (Calls Try.prog 10 #[.agg #[.string (bs a), .int .i64 x]] U fun e w' => e = .returned (.bool q) ∧ Below U.heap.size U w') := fun U => by rw [← HQ.out]; exact sound_any a x U
  have HSB : ∀ U, Hid (Calls Try.prog 11 #[.agg #[.string (bs a), .int .i64 x]] U fun e w' => e = .returned (.bool q) ∧ Below U.heap.size U w') := fun U => by rw [← HQ.out]; exact refSound_any a x U
  have hqq : (q != q) = false := by simp
  have hs1 : ((bs (o.getD [])).toList == (bs (o.getD [])).toList) = true := by simp
  have hsn : ((bs (o.getD [])).toList != (bs (o.getD [])).toList) = false := by simp
  have hen : (er != er) = false := by simp
  go_wp2_with fail
  go_region_held3 (fun U => (U.cell? ⟨w.heap.size, 0, none⟩ = some (.string (bs a)) ∧ U.cell? ⟨w.heap.size, 1, none⟩ = some (.int .i64 x)) ∧ (convert 24 9 (.slice A1 n1 c1)).run Try.prog U = .ok (.string (bs (o.getD []))) U) (first | (with_reducible exact (KS _).out HB.out)) (first
    | (go_at_call 10; (with_reducible refine (HSA _).out.mono ?_); rintro e wN ⟨rfl, hbN⟩; replace HB := Lib.hid (HB.out.trans (hbN.mono HB.out.size)); clear hbN)
    | (go_at_call 11; (with_reducible refine (HSB _).out.mono ?_); rintro e wN ⟨rfl, hbN⟩; replace HB := Lib.hid (HB.out.trans (hbN.mono HB.out.size)); clear hbN))
  all_goals
    have NB := Lib.hid (XB2.out.below (HB.out.mono (Nat.le_of_lt hlt2)))
    have NZ : Hid (w.heap.size ≤ wN.heap.size) := Nat.le_trans (Nat.le_of_lt hlt2) HB.out.size
    have NW := Lib.hid (W2.out.trans (HB.out.mono W2.out.size))
    have NX : Hid (wN.heap[w.heap.size]? = some (.cells #[.string (bs a), .int .i64 x] 23 (0, 0))) := (HB.out.block _ hlt2).trans X4.out
    have NXX := Lib.hid (XX2.out.below (HB.out.mono hz2))
    have hz3 := HB.out.size
    clear HB KS HSA HSB hqq hs1 hsn hen XB2 W2 X4 XX2
    cases o with
    | none =>
      obtain rfl : er = 2 := by rw [← HER.out]; rfl
      have HDB := Lib.hid (dec_any NB.out NZ.out)
      go_wp2_with fail
      refine HDB.out.mono ?_
      clear HDB
      cases hdb : dec b with
      | none =>
        clear hdb
        intro e w6 hd
        obtain ⟨rfl, hb6⟩ := decP_none hd
        clear hd
        obtain ⟨y1, y2, y3⟩ := box1 w6 (Obj.cells #[.string (bs []), .int .i64 0] 23)
        have Y1 := Lib.hid y1
        have Y2 := Lib.hid (NW.out.trans ((hb6.trans (y2.mono hb6.size)).mono NW.out.size))
        have hz6 : w6.heap.size < (w6.alloc (Obj.cells #[.string (bs []), .int .i64 0] 23)).heap.size := by rw [y3]; omega
        clear hb6 y1 y2 y3
        go_upto_region 10 with fail
        generalize w6.alloc (Obj.cells #[.string (bs []), .int .i64 0] 23) = V6 at *
        go_wp2_with fail
        refine (awake_any _).mono ?_
        rintro e w7 ⟨rfl, hb7⟩
        have c0 : w7.cell? ⟨w6.heap.size, 0, none⟩ = some (.string (bs [])) := cell_in ((hb7.block _ hz6).trans Y1.out) 0
        have c1 : w7.cell? ⟨w6.heap.size, 1, none⟩ = some (.int .i64 0) := cell_in ((hb7.block _ hz6).trans Y1.out) 1
        have W7 := Lib.hid (Y2.out.trans (hb7.mono Y2.out.size))
        have n0 := nil_yes
        have n0' := nil_yes'
        clear hb7 Y1 Y2
        go_wp2_with fail
        go_ret
        exact ⟨rfl, W7.out⟩
      | some rr =>
        have HEN := Lib.hid (dec_some hdb).2.2
        clear hdb
        obtain ⟨a', x'⟩ := rr
        intro e w6 hd
        obtain ⟨rfl, hb6⟩ := decP_some hd
        clear hd
        obtain ⟨y1, y2, y3⟩ := box1 w6 (Obj.cells #[.string (bs a'), .int .i64 x'] 23)
        have hb6' := hb6.trans (y2.mono hb6.size)
        have Y1 := Lib.hid y1
        have Y2 := Lib.hid (NW.out.trans (hb6'.mono NW.out.size))
        have YB := Lib.hid (NB.out.below (hb6'.mono NZ.out))
        have hzz := Nat.le_trans NZ.out hb6'.size
        dsimp only
        clear hb6 hb6' y2 y3 y1
        go_upto_region 10 with fail
        generalize w6.alloc (Obj.cells #[.string (bs a'), .int .i64 x'] 23) = V6 at *
        go_wp2_with (first | (refine wpList_load_row rfl 23 _ rfl w6.heap.size rfl _ _ _ Y1.out _ Try.underlying23 rfl s23 ?_) | fail)
        refine (refE_yes' HEN.out V6).mono ?_
        rintro e w7 ⟨rfl, hb7⟩
        have Z2 := Lib.hid (Y2.out.trans (hb7.mono Y2.out.size))
        have ZB := Lib.hid (YB.out.below (hb7.mono hzz))
        have hz7 := Nat.le_trans hzz hb7.size
        clear hb7 Y1 Y2 YB
        go_wp2_with fail
        refine (awake_any _).mono ?_
        rintro e w8 ⟨rfl, hb8⟩
        have cv := fstr ZB.out w8 (hb8.mono hz7)
        have W8 := Lib.hid (Z2.out.trans (hb8.mono Z2.out.size))
        have hsb : ((bs b).toList == (bs b).toList) = true := by simp
        clear hb8 Z2 ZB
        go_wp2_with fail
        go_ret
        exact ⟨rfl, W8.out⟩
    | some y =>
      obtain rfl : er = 0 := by rw [← HER.out]; rfl
      have HDY := Lib.hid (dec_any NXX.out (by omega))
      have hdy : dec ((some y).getD []) = some (a, x) := (HDE y rfl).out
      rw [hdy] at HDY
      clear hdy
      go_wp2_with fail
      refine HDY.out.mono ?_
      intro e w4 hd
      obtain ⟨rfl, hb4⟩ := decP_some hd
      clear hd HDY
      obtain ⟨y1, y2, y3⟩ := box1 w4 (Obj.cells #[.string (bs a), .int .i64 x] 23)
      have hb4' := hb4.trans (y2.mono hb4.size)
      have d0 : (w4.alloc (Obj.cells #[.string (bs a), .int .i64 x] 23)).cell? ⟨w4.heap.size, 0, none⟩ = some (.string (bs a)) := cell_in y1 0
      have d1 : (w4.alloc (Obj.cells #[.string (bs a), .int .i64 x] 23)).cell? ⟨w4.heap.size, 1, none⟩ = some (.int .i64 x) := cell_in y1 1
      have hlt3 : w.heap.size < wN.heap.size := by omega
      have d2 : (w4.alloc (Obj.cells #[.string (bs a), .int .i64 x] 23)).cell? ⟨w.heap.size, 0, none⟩ = some (.string (bs a)) := cell_in ((hb4'.block _ hlt3).trans NX.out) 0
      have d3 : (w4.alloc (Obj.cells #[.string (bs a), .int .i64 x] 23)).cell? ⟨w.heap.size, 1, none⟩ = some (.int .i64 x) := cell_in ((hb4'.block _ hlt3).trans NX.out) 1
      replace NB := Lib.hid (NB.out.below (hb4'.mono NZ.out))
      replace NZ : Hid (w.heap.size ≤ (w4.alloc (Obj.cells #[.string (bs a), .int .i64 x] 23)).heap.size) := Nat.le_trans NZ.out hb4'.size
      replace NW := Lib.hid (NW.out.trans (hb4'.mono NW.out.size))
      have e1 : ((bs a).toList == (bs a).toList) = true := by simp
      have e2 : (x == x) = true := by simp
      dsimp only
      clear hb4 hb4' y1 y2 y3 NX NXX
      go_upto_region 7 with fail
      generalize w4.alloc (Obj.cells #[.string (bs a), .int .i64 x] 23) = V4 at *
      have HDB := Lib.hid (dec_any NB.out NZ.out)
      go_wp2_with fail
      refine HDB.out.mono ?_
      clear HDB
      cases hdb : dec b with
      | none =>
        clear hdb
        intro e w6 hd
        obtain ⟨rfl, hb6⟩ := decP_none hd
        clear hd
        obtain ⟨y1, y2, y3⟩ := box1 w6 (Obj.cells #[.string (bs []), .int .i64 0] 23)
        have Y1 := Lib.hid y1
        have Y2 := Lib.hid (NW.out.trans ((hb6.trans (y2.mono hb6.size)).mono NW.out.size))
        have hz6 : w6.heap.size < (w6.alloc (Obj.cells #[.string (bs []), .int .i64 0] 23)).heap.size := by rw [y3]; omega
        clear hb6 y1 y2 y3
        go_upto_region 10 with fail
        generalize w6.alloc (Obj.cells #[.string (bs []), .int .i64 0] 23) = V6 at *
        go_wp2_with fail
        refine (awake_any _).mono ?_
        rintro e w7 ⟨rfl, hb7⟩
        have c0 : w7.cell? ⟨w6.heap.size, 0, none⟩ = some (.string (bs [])) := cell_in ((hb7.block _ hz6).trans Y1.out) 0
        have c1 : w7.cell? ⟨w6.heap.size, 1, none⟩ = some (.int .i64 0) := cell_in ((hb7.block _ hz6).trans Y1.out) 1
        have W7 := Lib.hid (Y2.out.trans (hb7.mono Y2.out.size))
        have n0 := nil_yes
        have n0' := nil_yes'
        clear hb7 Y1 Y2
        go_wp2_with fail
        go_ret
        exact ⟨rfl, W7.out⟩
      | some rr =>
        have HEN := Lib.hid (dec_some hdb).2.2
        clear hdb
        obtain ⟨a', x'⟩ := rr
        intro e w6 hd
        obtain ⟨rfl, hb6⟩ := decP_some hd
        clear hd
        obtain ⟨y1, y2, y3⟩ := box1 w6 (Obj.cells #[.string (bs a'), .int .i64 x'] 23)
        have hb6' := hb6.trans (y2.mono hb6.size)
        have Y1 := Lib.hid y1
        have Y2 := Lib.hid (NW.out.trans (hb6'.mono NW.out.size))
        have YB := Lib.hid (NB.out.below (hb6'.mono NZ.out))
        have hzz := Nat.le_trans NZ.out hb6'.size
        dsimp only
        clear hb6 hb6' y2 y3 y1
        go_upto_region 10 with fail
        generalize w6.alloc (Obj.cells #[.string (bs a'), .int .i64 x'] 23) = V6 at *
        go_wp2_with (first | (refine wpList_load_row rfl 23 _ rfl w6.heap.size rfl _ _ _ Y1.out _ Try.underlying23 rfl s23 ?_) | fail)
        refine (refE_yes' HEN.out V6).mono ?_
        rintro e w7 ⟨rfl, hb7⟩
        have Z2 := Lib.hid (Y2.out.trans (hb7.mono Y2.out.size))
        have ZB := Lib.hid (YB.out.below (hb7.mono hzz))
        have hz7 := Nat.le_trans hzz hb7.size
        clear hb7 Y1 Y2 YB
        go_wp2_with fail
        refine (awake_any _).mono ?_
        rintro e w8 ⟨rfl, hb8⟩
        have cv := fstr ZB.out w8 (hb8.mono hz7)
        have W8 := Lib.hid (Z2.out.trans (hb8.mono Z2.out.size))
        have hsb : ((bs b).toList == (bs b).toList) = true := by simp
        clear hb8 Z2 ZB
        go_wp2_with fail
        go_ret
        exact ⟨rfl, W8.out⟩
end Go.Proofs.Ytdlephffcbkalaa.entryEncodes
