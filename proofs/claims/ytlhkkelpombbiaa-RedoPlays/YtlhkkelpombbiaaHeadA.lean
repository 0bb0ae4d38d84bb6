/- 'append(b, make([]byte, k)...)' onto a slice of one's own; redo.Head, walked. -/
import Derived.Test.YtlhkkelpombbiaaNums
import Derived.Test.YtlhkkelpombbiaaFWrite
import Derived.Lib.AppendZerosOnto
import Derived.Lib.SlBytesConst
namespace Go.Proofs.Ytlhkkelpombbiaa
open Go.RowKit
set_option linter.unusedVariables false

theorem zeroCells_one (z : Value) (n : Nat) : (Builtin.zeroCells #[z] n).toList = List.replicate n z := by
  apply List.ext_getElem
  · simp [Builtin.zeroCells]
  · intro i h1 h2
    simp [Builtin.zeroCells, Nat.mod_one]
theorem app_zeros {w : World} {base k : Nat} {v : Value} {l : List UInt8} (ty : TypeId) (hown : w.ownsRow base 5 1 v l.length (l.map F.bv)) (h0 : 0 < k) (hl0 : 0 < l.length) (hl : l.length + k ≤ 1000000) (hbase : base ≤ w.heap.size) :
    ∃ v' w', (Builtin.append_ #[23, 3] ty #[v, .int .i64 (k : Int)]).run Try.prog w = .ok v' w' ∧ w'.ownsRow base 5 1 v' (l ++ List.replicate k 0).length ((l ++ List.replicate k 0).map F.bv) ∧ w.grownBy w' v.ownBlock := by
  obtain ⟨i0, hi, hz0, hz1, hz2⟩ := info_parts F.Try.info5
  have hmap : (l ++ List.replicate k 0).map F.bv = l.map F.bv ++ List.replicate k (.int .u8 0) := by simp [F.bv]
  have hlen : (l ++ List.replicate k (0 : UInt8)).length = l.length + k := by simp
  rw [hmap, hlen]
  have hzc : (Value.int .u8 0).cells = #[Value.int .u8 0] := rfl
  rcases hown.2 with ⟨rfl, he⟩ | ⟨g, cap, cur, rfl, hbg, hg, hnc, hcm, hcs, htake⟩
  · omega
  · by_cases hroom : l.length + k ≤ cap
    · have hst := run_storeCells_at Try.prog g (l.length * i0.size) 5 (List.replicate k (.int .u8 0)) 0 cur w hg (by rw [hz1]; simp [hcs]; omega) (fun u hu => by rw [List.eq_of_mem_replicate hu]; rfl)
      simp only [Nat.add_zero] at hst
      have hw : IntKind.i64.wrap (k : Int) = k := by rw [IntKind.wrap_i64]; omega
      have hneg : ¬ ((k : Int) < 0) := by omega
      have h48i : ¬ (281474976710656 < (k : Int) * (i0.bytes : Int)) := by rw [hz2]; omega
      have hns : ¬ (k * i0.size = 0) := by rw [hz1]; omega
      have hzl : (Builtin.zeroCells (Value.int .u8 0).cells k).toList = List.replicate k (.int .u8 0) := by rw [hzc, zeroCells_one]
      have hr : (Builtin.append_ #[23, 3] ty #[.slice (some ⟨g, 0, none⟩) l.length cap, .int .i64 (k : Int)]).run Try.prog w = .ok (.slice (some ⟨g, 0, none⟩) (l.length + k) cap) (w.setRow g (cur.toList.take (l.length * i0.size) ++ List.replicate k (Value.int .u8 0) ++ cur.toList.drop (l.length * i0.size + k)).toArray) := by
        simp only [List.length_replicate] at hst
        simp [Builtin.append_, run_underlying Try.underlying23, run_underlying Try.underlying3, sizeOf, typeInfo, zeroValue, hi, hz0, asInt, asIntOf, hw, hneg, hns, h48i, hroom, Addr.add_lit, hzl, hst]
      refine ⟨_, _, hr, ⟨?_, .inr ⟨g, cap, _, rfl, hbg, setRow_heap w g cur _ 5 _ hg, hroom, hcm, ?_, ?_⟩⟩, ⟨rfl, rfl, rfl, by simp, fun k _ hk => setRow_other w g k _ (fun e => hk (by simp [Value.ownBlock, e]))⟩⟩
      · simp
      · simp only [List.size_toArray, List.length_append, List.length_take, List.length_drop, Array.length_toList, List.length_replicate]
        rw [hz1]
        omega
      · rw [hz1, htake, Nat.mul_one]
        exact List.take_left' (by simp)
    · have holds := hown.cells (g := g) rfl
      have hold := run_firstCells_some (P := Try.prog) w.drew i0.size l.length ⟨g, 0, none⟩ l.length cap (l.map F.bv) (by rw [hz1]; simp) (fun j u hu => holds j u hu)
      have hr := Lib.run_append_grow_zeros (P := Try.prog) w 23 3 ty 5 i0 _ .i64 .i64 Try.underlying23 Try.underlying3 hi hz0 (some ⟨g, 0, none⟩) l.length cap (l.map F.bv) hold k h0 (by rw [hz1]; omega) (by omega) (by omega) (by rw [hz2]; omega) (growslice_fits (by omega) (by rw [hz2]; omega))
      have hge := grownCap_ge w (l.length + k) cap 5
      have hcm2 : grownCap w (l.length + k) cap 5 ≤ maxLen := grownCap_le_maxLen w (l.length + k) cap 5 (by unfold maxLen; omega)
      refine ⟨_, _, hr, ⟨by simp, .inr ⟨w.heap.size, _, _, rfl, hbase, heap_alloc_new w.drew _, hge, hcm2, ?_, ?_⟩⟩, ⟨rfl, rfl, rfl, by simp, fun k hk _ => Below.heap_alloc w.drew _ k hk⟩⟩
      · simp only [Array.size_append, List.size_toArray, size_zeroCells, hzc, List.length_map]
        simp
        omega
      · simp only [Array.toList_append, hzc, zeroCells_one, Nat.mul_one]
        exact List.take_left' (by simp)
theorem redo_bts (w : World) (fr : Nat × Nat) : F.Bts (w.alloc (.cells #[.int .u8 82, .int .u8 69, .int .u8 68, .int .u8 79] 5 fr)) (w.heap.size + 1) (some ⟨w.heap.size, 0, none⟩) 4 4 [82, 69, 68, 79] :=
  ⟨rfl, Nat.le_refl _, by decide, (fun e => by cases e), fun _ => ⟨w.heap.size, 0, rfl, by omega, fun j hj => by
    have h1 := World.cell?_alloc_mark w #[.int .u8 82, .int .u8 69, .int .u8 68, .int .u8 79] 5 fr j
    rw [Nat.zero_add]
    refine h1.trans ?_
    match j, hj with
    | 0, _ => rfl
    | 1, _ => rfl
    | 2, _ => rfl
    | 3, _ => rfl⟩⟩
/-- What Head has written behind k numbers. -/
def hpart (l : List Int) (k : Nat) : List UInt8 := [82, 69, 68, 79] ++ F.lit 4 l.length ++ (l.take k).flatMap fun n => F.lit 2 n.toNat
theorem hpart_len (l : List Int) (k : Nat) : (hpart l k).length ≤ 8 + 2 * l.length ∧ 8 ≤ (hpart l k).length := by
  unfold hpart
  rw [List.length_append, List.length_append, F.lit_length, flat2_len, List.length_take]
  have : ([82, 69, 68, 79] : List UInt8).length = 4 := rfl
  omega
theorem hpart_succ {l : List Int} {k : Nat} {x : Int} (h : l[k]? = some x) : hpart l (k + 1) = hpart l k ++ F.lit 2 x.toNat := by
  obtain ⟨hk, rfl⟩ := List.getElem?_eq_some_iff.1 h
  unfold hpart
  rw [List.take_succ_eq_append_getElem hk, List.flatMap_append]
  simp
theorem two_bts (W : World) (m : Nat) (hm : m < 65536) : F.Bts (W.alloc (.cells #[.int .u8 ((m : Int) % 256), .int .u8 ((m : Int) / 256)] 5)) (W.heap.size + 1) (some ⟨W.heap.size, 0, none⟩) 2 2 (F.lit 2 m) :=
  ⟨rfl, Nat.le_refl _, by decide, (fun e => by cases e), fun _ => ⟨W.heap.size, 0, rfl, by omega, fun j hj => by
    have h1 := World.cell?_alloc_mark W #[.int .u8 ((m : Int) % 256), .int .u8 ((m : Int) / 256)] 5 (0, 0) j
    rw [Nat.zero_add]
    refine h1.trans ?_
    have hl : F.lit 2 m = [UInt8.ofNat m, UInt8.ofNat (m / 256)] := rfl
    rw [hl]
    match j, hj with
    | 0, _ =>
      show some (Value.int .u8 _) = some (Value.int .u8 ((UInt8.ofNat m).toNat : Int))
      rw [UInt8.toNat_ofNat']; congr 2
    | 1, _ =>
      show some (Value.int .u8 _) = some (Value.int .u8 ((UInt8.ofNat (m / 256)).toNat : Int))
      rw [UInt8.toNat_ofNat']; congr 2; omega⟩⟩
theorem head_no {w : World} {M : Nat → Prop} {A : Option Addr} {n c : Nat} {l : List Int} (h : Ints w M A n c l) (hg : good l = false) :
    Calls Try.prog 8 #[.slice A n c] w fun e w' => e = .returned (.tuple #[.slice none 0 0, .int .i64 1]) ∧ w = w' := by
  have HI := Lib.hid h
  have HG := Lib.hid hg
  clear h hg
  go_enter Try.func8, Try.ntmps8
  go_wp2_with fail
  refine (allowed_any HI.out).mono ?_
  rintro e w1 ⟨rfl, rfl⟩
  rw [HG.out]
  go_wp2_with fail
  go_ret2
  exact ⟨rfl, rfl⟩
set_option maxRecDepth 20000 in
set_option maxHeartbeats 1000000 in
theorem head_yes {w : World} {M : Nat → Prop} {A : Option Addr} {n c : Nat} {l : List Int} (h : Ints w M A n c l) (hM : ∀ b, M b → b < w.heap.size) (hg : good l = true) :
    Calls Try.prog 8 #[.slice A n c] w (F.Gives2 w (hd l)) := by
  have HI := Lib.hid h
  have HL := Lib.hid h.len
  have HM := Lib.hid hM
  have HG := Lib.hid hg
  have hn24 : n ≤ 24 := by rw [← h.len]; exact (good_iff.1 hg).1
  have hlim := h.lim
  unfold maxLen at hlim
  clear h hM hg
  go_enter Try.func8, Try.ntmps8
  go_wp2_with fail
  refine (allowed_any HI.out).mono ?_
  rintro e w1 ⟨rfl, rfl⟩
  rw [HG.out]
  have hcv := Lib.run_convert_bytes_const (P := Try.prog) w 23 5 #[.int .u8 82, .int .u8 69, .int .u8 68, .int .u8 79] 4 4 Try.underlying23 Try.underlying5
  go_wp2_with fail
  clear hcv
  refine (F.num_yes _ 4 4 _ n [82, 69, 68, 79] _ (by omega) (redo_bts w _) (by simp) (by omega)).mono ?_
  rintro e w1 ⟨v, rfl, hm0⟩
  have HM1 : Hid (F.Mine w w1 v (hpart l 0)) := by
    have hp : [82, 69, 68, 79] ++ F.lit 4 n = hpart l 0 := by simp [hpart, HL.out]
    rw [← hp]
    exact hm0.from_ (F.below_alloc _ _)
  clear hm0
  go_wp2_with fail
  go_loopw [4, 24] (fun x i wr => ∃ k : Nat, ∃ v, k ≤ n ∧ i = .int .i64 k ∧ x = v ∧ Hid (F.Mine w wr v (hpart l k))) (fun _ i _ => n - (intOf i).toNat)
  case atStart => exact ⟨0, v, Nat.zero_le _, rfl, rfl, HM1⟩
  case round =>
    clear HM1
    obtain ⟨k, v, hk, rfl, rfl, HR⟩ := hrel
    by_cases hlt : k < n
    · obtain ⟨b, off, rfl, hb, hc⟩ := (HI.out.keep (w' := wr) fun b hb => HR.out.bel.block b (HM.out b hb)).cell hlt
      have HX : Hid (l[k]? = some (l[k]?.getD 0)) := get_of HL.out hlt
      generalize l[k]?.getD 0 = x at *
      obtain ⟨hx0, hx1, _⟩ := okn_iff.1 ((good_iff.1 HG.out).2.1 x (List.mem_of_getElem? HX.out))
      obtain ⟨m, rfl⟩ : ∃ m : Nat, x = m := ⟨x.toNat, by omega⟩
      obtain ⟨hle, hge⟩ := hpart_len l k
      have hln := HL.out
      obtain ⟨v', w', hr, ho, hgr⟩ := F.app_run 23 (HR.out.own.alloc (.cells #[.int .u8 ((m : Int) % 256), .int .u8 ((m : Int) / 256)] 5)) (two_bts wr m (by omega)) (by rw [F.lit_length]; omega) (by simp; have := HR.out.bel.size; omega)
      have HR2 := Lib.hid hr
      have HM2 : Hid (F.Mine w w' v' (hpart l (k + 1))) := by
        rw [hpart_succ HX.out]
        exact ⟨ho, (HR.out.bel.alloc HR.out.bel.size _).grown hgr (by simp; have := HR.out.bel.size; omega) (fun j hj => (HR.out.own.lt j hj).1)⟩
      clear hr ho hgr hle hge hln
      go_wp2_with (at_builtin; refine Lib.wpList_append_run _ rfl _ _ _ _ rfl _ _ rfl rfl _ _ HR2.out ?_)
      go_roundw
      case rel => exact ⟨k + 1, v', by omega, by go_num, rfl, HM2⟩
      case measure => simp [intOf]; omega
    · obtain rfl : k = n := by omega
      have HH : Hid (hpart l k = hbody l) := by show _ = _; unfold hpart hbody; rw [List.take_of_length_le (by rw [HL.out]; omega)]
      have hlen : (hbody l).length = 8 + 2 * k := by rw [hbody_len, HL.out]
      rw [HH.out] at HR
      obtain ⟨A1, n1, c1, rfl, hB1⟩ := HR.out.holds
      have hn1 : n1 = 8 + 2 * k := by rw [← hB1.len, hlen]
      subst hn1
      clear hB1
      obtain ⟨v', w', hr, ho, hgr⟩ := app_zeros (k := 124 - (8 + 2 * k)) 23 HR.out.own (by omega) (by omega) (by omega) HR.out.bel.size
      have HR2 := Lib.hid hr
      have HM2 : Hid (F.Mine w w' v' (hpre l)) := by
        have : hpre l = hbody l ++ List.replicate (124 - (8 + 2 * k)) 0 := by unfold hpre; rw [hlen]
        rw [this]
        exact ⟨ho, HR.out.bel.grown hgr HR.out.bel.size (fun j hj => (HR.out.own.lt j hj).1)⟩
      have hz0 : (124 : Int) - (8 + 2 * (k : Int)) = ((124 - (8 + 2 * k) : Nat) : Int) := by omega
      clear hr ho hgr
      go_wp2_with (at_builtin; refine Lib.wpList_append_run _ rfl _ _ _ _ rfl _ _ rfl rfl _ _ HR2.out ?_)
      obtain ⟨A2, n2, c2, rfl, hB2⟩ := HM2.out.holds
      have hn2 : n2 = 124 := by rw [← hB2.len, hpre_len (by rw [HL.out]; omega)]
      subst hn2
      have H2 := Lib.hid hB2
      have hcr := F.crc_lt (hpre l)
      clear hB2
      go_wp2_with fail
      refine (F.sum_any _ _ _ _ _ _ H2.out (by omega)).mono ?_
      rintro e w3 ⟨rfl, rfl⟩
      go_wp2_with fail
      refine (F.num_yes A2 124 c2 _ (F.crc (hpre l)) (hpre l) w' hcr H2.out (Nat.le_refl _) (by omega)).mono ?_
      rintro e w3 ⟨v, rfl, hm3⟩
      have HM3 := Lib.hid (hm3.from_ HM2.out.bel)
      clear hm3
      go_wp2_with fail
      go_ret2
      exact ⟨v, rfl, HM3.out⟩
end Go.Proofs.Ytlhkkelpombbiaa
