/- The document's Put, walked. -/
import Derived.Test.YticbfjflhojolaaRefFlush
namespace Go.Proofs.Yticbfjflhojolaa
open Go.RowKit
set_option linter.unusedVariables false

theorem below_drewN {B : Nat} {a w : World} (h : Below B a w) (n : Nat) : Below B a (w.drewN n) := ⟨h.os, h.tape, h.output, h.size, h.block⟩
theorem RSt.keep {w w' : World} {r N : Nat} {v : Value} {fuse : Int} {dead : Bool} (h : RSt w r N v fuse dead) (he : w'.heap[r]? = w.heap[r]?) : RSt w' r N v fuse dead := he.trans h
theorem i71 : (Try.prog.info? 71).map (fun i => (i.zero, i.size, i.bytes)) = some (some (.agg #[.int .i64 0, .string ⟨#[]⟩, .bool false]), 3, 32) := by kernel_rfl
def Apps71 (w : World) (vs : Value) (k : Nat) (xs : List Value) (cs : List Value) (g cap : Nat) (w' : World) : Prop :=
  (Builtin.append_ #[63, 63] 63 #[vs, .slice (some ⟨w.heap.size, 0, none⟩) 1 1]).run Try.prog (w.alloc (.cells cs.toArray 71)) = .ok (.slice (some ⟨g, 0, none⟩) (k + 1) cap) w' ∧
    w'.ownsRow 0 71 3 (.slice (some ⟨g, 0, none⟩) (k + 1) cap) (k + 1) (xs ++ cs) ∧ (w.alloc (.cells cs.toArray 71)).grownBy w' vs.ownBlock ∧ (vs.ownBlock = some g ∨ g = w.heap.size + 1) ∧ g < w'.heap.size
theorem app71 {w : World} {vs : Value} {k : Nat} {xs : List Value} (h : w.ownsRow 0 71 3 vs k xs) (cs : List Value) (hl : cs.length = 3) (h1 : ∀ v ∈ cs, v.oneCell' = true) (hb : (k + 1) * 32 ≤ 140737488355328) : ∃ g cap w', Apps71 w vs k xs cs g cap w' := by
  have hz := i71
  cases hq : Try.prog.info? 71 with
  | none => simp [hq] at hz
  | some i =>
    simp only [hq, Option.map_some, Option.some.injEq, Prod.mk.injEq] at hz
    have hnew : (w.alloc (.cells cs.toArray 71)).heap[w.heap.size]? = some (.cells cs.toArray 71 (0, 0)) := heap_alloc_new _ _
    have := run_append_lies (P := Try.prog) (w.alloc (.cells cs.toArray 71)) 63 63 0 71 i _ 3 32 Try.underlying63 hq hz.1 hz.2.1 hz.2.2 rfl (by omega)
      vs k xs (ownsRow_keep h fun b hb => Below.heap_alloc _ _ _ (h.lt b hb).2) ⟨w.heap.size, 0, none⟩ 1 1 cs (by omega) (fun j u hu => by rw [Addr.add_mid, Nat.zero_add, cell_of hnew, List.getElem?_toArray]; exact hu) h1 (by omega) (by unfold maxLen; omega) hb (by omega) (w.heap.size + 1) (by simp)
    exact this
theorem build63 (a b c : Value) (w : World) (ha : a.cells = #[a] := by rfl) (hb : b.cells = #[b] := by rfl) (hc : c.cells = #[c] := by rfl) : (Instr.buildSlice 63 1 #[(0, .agg #[a, b, c])]).run Try.prog w = .ok (.slice (some ⟨w.heap.size, 0, none⟩) 1 1) (w.alloc (.cells #[a, b, c] 71)) := by
  have hz := i71
  cases hq : Try.prog.info? 71 with
  | none => simp [hq] at hz
  | some i =>
    simp only [hq, Option.map_some, Option.some.injEq, Prod.mk.injEq] at hz
    refine run_buildSlice w 63 71 1 _ _ i _ Try.underlying63 hq hz.1 (by rw [hz.2.1]; omega) (by rw [hz.2.1]; omega) ?_
    rw [hz.2.1]
    obtain ⟨x, hx, hs, hk⟩ := Great.fill_dense (s := 3) (by omega) [.agg #[a, b, c]] 0 ((Array.range (1 * 3)).map ((Value.agg #[.int .i64 0, .string ⟨#[]⟩, .bool false]).cells[· % (Value.agg #[.int .i64 0, .string ⟨#[]⟩, .bool false]).cells.size]!)) (fun v hv => by simp at hv; subst hv; rfl) (by simp)
    have : x = #[a, b, c] := by
      apply Array.ext_getElem?
      intro k
      rw [hk k]
      by_cases h1 : k < 3
      · rw [if_pos ⟨by omega, by simpa using h1⟩]
        have e1 : k / 3 = 0 := by omega
        have e2 : k % 3 = k := by omega
        rw [e1, e2]
        simp [Value.cells]
      · have hs' : x.size = 3 := by rw [hs]; simp
        rw [if_neg (by simp; omega), Array.getElem?_eq_none (by simp; omega), Array.getElem?_eq_none (by simp; omega)]
    rw [this] at hx
    exact hx
theorem wp_load63 {o : Oper} {a : Act} {w : World} {K : Act → World → Prop} {Q : Exit → Act → World → Prop} (x : Operand) (ho : o.op = .load 63 x) (p : Addr) (hx : a.eval x = .pointer (some p)) (v : Value) (hc : w.cell? p = some v)
    (h : K (a.put o.dst v) w) : o.wp Try.prog a w K Q := by
  unfold Oper.wp execOp
  simp only [ho, hx]
  simp [hc, go_sem]
  exact h
theorem wp_store63 {o : Oper} {a : Act} {w : World} {K : Act → World → Prop} {Q : Exit → Act → World → Prop} (x y : Operand) (ho : o.op = .store 63 x y) (p : Addr) (v : Value) (hx : a.eval x = .pointer (some p)) (hy : a.eval y = v) (u : Value) (hc : w.cell? p = some u) (hf : w.frozen? p = false)
    (h1 : ∃ A n c, v = .slice A n c) (h : K (a.put o.dst undef) (w.setCell p v)) : o.wp Try.prog a w K Q := by
  obtain ⟨A, n, c, rfl⟩ := h1
  unfold Oper.wp execOp
  simp only [ho, hx, hy]
  simp [hc, hf, go_sem]
  exact h
theorem Bts.str {w : World} {M : Nat → Prop} {A : Option Addr} {c : Nat} {l : List UInt8} (h : Bts w M A 128 c l) : (convert 41 9 (.slice A 128 c)).run Try.prog w = .ok (.string ⟨l.toArray⟩) w := by
  obtain ⟨b, off, rfl, _, hr⟩ := h.at_ (by omega)
  have hl := h.len
  have := run_convert_bytes_back (P := Try.prog) w 41 9 5 ⟨b, off, none⟩ c l Try.underlying41 Try.underlying5 Try.underlying9 (fun j hj => by
    rw [Addr.add_mid]
    have := hr j _ (bc_get hj)
    rw [this]
    simp [hj])
  rw [hl] at this
  exact this
/-- What the region reads of the k-th write. -/
def SS (w' : World) (b off j m : Nat) (A' : Option Addr) (c' : Nat) (l : List UInt8) : Prop :=
  w'.cell? ⟨b, off + j * 2, none⟩ = some (.int .i64 (m : Int)) ∧ w'.cell? ⟨b, off + j * 2 + 1, none⟩ = some (.slice A' 128 c') ∧ (convert 41 9 (.slice A' 128 c')).run Try.prog w' = .ok (.string ⟨l.toArray⟩) w'
theorem ss_of {w w' : World} {b off j m : Nat} {A' : Option Addr} {c' : Nat} {l : List UInt8} {M : Nat → Prop} (h0 : w.cell? ⟨b, off + j * 2, none⟩ = some (.int .i64 (m : Int))) (h1 : w.cell? ⟨b, off + j * 2 + 1, none⟩ = some (.slice A' 128 c')) (hB : Bts w M A' 128 c' l) (hb : M b)
    (hk : ∀ q, M q → w'.heap[q]? = w.heap[q]?) : SS w' b off j m A' c' l :=
  ⟨(World.cell?_of_block (a := ⟨b, off + j * 2, none⟩) (hk b hb)).trans h0, (World.cell?_of_block (a := ⟨b, off + j * 2 + 1, none⟩) (hk b hb)).trans h1, (hB.keep hk).str⟩
/-- The third loop, behind k writes. -/
def RPut (w : World) (r N : Nat) (O : List Nat) (q : RD) (ws : List Wr) (k : Nat) (wr : World) (qk : RD) (vk : Value) : Prop :=
  RAt wr r N qk vk ∧ q.putGo ws = qk.putGo (ws.drop k) ∧ qk.list.length = q.list.length + k ∧ Chg O w wr ∧ ∀ g, vk.ownBlock = some g → g ∈ O ∨ w.heap.size ≤ g
def rgo (q : RD) (N : Nat) (ws : List Wr) : Int × RD := if fitE N ws = 0 then q.putGo ws else (fitE N ws, q)
theorem rgo_bad {q : RD} {N : Nat} {ws : List Wr} {x : Int} (h : fitE N ws = x) (hx : x ≠ 0) : rgo q N ws = (x, q) := by unfold rgo; rw [h, if_neg hx]
theorem rgo_ok {q : RD} {N : Nat} {ws : List Wr} (h : fitE N ws = 0) : rgo q N ws = q.putGo ws := by unfold rgo; rw [if_pos h]
set_option maxRecDepth 100000 in
set_option maxHeartbeats 8000000 in
theorem rput_go {w : World} {r N : Nat} {q : RD} {v : Value} {M : Nat → Prop} {A : Option Addr} {n c : Nat} {ws : List Wr} (h : RAt w r N q v) (hd : q.dead = false)
    (hW : Wrs w M A n c ws) (hM : ∀ b, M b → b < w.heap.size ∧ b ∉ rowns r v) (hb : (q.list.length + n) * 32 ≤ 140737488355328) :
    Calls Try.prog 13 #[.pointer (some ⟨r, 0, none⟩), .slice A n c] w fun e w' => e = .returned (.int .i64 (rgo q N ws).1) ∧ RDid w r (rowns r v) N (rgo q N ws).2 w' := by
  have H := Lib.hid h
  have HW := Lib.hid hW
  have HM := Lib.hid hM
  have HBY := Lib.hid hb
  have c3 := h.st.c3
  rw [hd] at c3
  have hrl := h.st.lt
  have hlim := hW.lim
  have hcap := hW.cap
  unfold maxLen at hlim
  have hn1 := h.n1
  clear h hd hW hM hb
  go_enter Try.func13, Try.ntmps13
  go_wp2_with fail
  go_loopw [5] (fun i wr => ∃ k : Nat, k ≤ n ∧ i = .int .i64 k ∧ Hid ((ws.take k).all (fun x => inR N x.1) = true) ∧ Hid (Below w.heap.size w wr)) (fun i _ => n - (intOf i).toNat)
  case atStart => exact ⟨0, Nat.zero_le _, rfl, by simp [Hid], Below.refl _ _⟩
  case round =>
    obtain ⟨k, hk, rfl, HA, HB⟩ := hrel
    by_cases hlt : k < n
    · obtain ⟨x, hx⟩ : ∃ x, ws[k]? = some x := ⟨_, List.getElem?_eq_getElem (by rw [HW.out.len]; exact hlt)⟩
      obtain ⟨b, off, rfl, hmb, hc0, A', n', c', hc1, hB⟩ := (HW.out.keep (w' := wr) fun b hb => HB.out.block b (HM.out b hb).1).get hx
      have HX := Lib.hid hx
      obtain ⟨y, l⟩ := x
      simp only at hc0 hB
      have cN := (H.out.st.keep (HB.out.block r hrl)).c0
      have i0 : (0 : Int) ≤ (k : Int) := Int.natCast_nonneg _
      have i1 : (k : Int) < (n : Int) := by omega
      clear hx hB
      by_cases hy0 : y < 0
      · have hin : inR N y = false := by simp [inR]; omega
        have HF : Hid (fitE N ws = 4) := by
          show _ = _
          unfold fitE
          rw [if_neg]
          rw [Bool.not_eq_true]
          exact all_not HX.out hin
        have t1 : decide (y < 0) = true := by simpa using hy0
        clear hin
        go_wp2_with fail
        go_quiet (fail)
        go_wp2_with fail
        go_ret
        rw [rgo_bad HF.out (by omega)]
        exact ⟨rfl, _, ⟨v, rfl, H.out.keep fun b hb => (HB.out.block b (H.out.lt b hb))⟩, Chg.of_below (below_drewN HB.out _), fun b hb => .inl hb⟩
      · have t1 : decide (y < 0) = false := by simpa using hy0
        by_cases hyN : y < N
        · have HA2 := Lib.hid (all_take HX.out HA.out (show inR N y = true by simp [inR]; omega))
          have t2 : decide ((N : Int) ≤ y) = false := by simp; omega
          go_wp2_with fail
          go_quiet (fail)
          go_wp2_with fail
          go_roundw
          case rel => exact ⟨k + 1, by omega, by go_num, HA2, below_drewN HB.out _⟩
          case measure => simp [intOf]; omega
        · have hin : inR N y = false := by simp [inR]; omega
          have HF : Hid (fitE N ws = 4) := by
            show _ = _
            unfold fitE
            rw [if_neg]
            rw [Bool.not_eq_true]
            exact all_not HX.out hin
          have t2 : decide ((N : Int) ≤ y) = true := by simp; omega
          clear hin
          go_wp2_with fail
          go_quiet (fail)
          go_wp2_with fail
          go_ret
          rw [rgo_bad HF.out (by omega)]
          exact ⟨rfl, _, ⟨v, rfl, H.out.keep fun b hb => (HB.out.block b (H.out.lt b hb))⟩, Chg.of_below (below_drewN HB.out _), fun b hb => .inl hb⟩
    · obtain rfl : k = n := by omega
      have HALL : Hid (ws.all (fun x => inR N x.1) = true) := by
        have := HA.out
        rw [List.take_of_length_le (by rw [HW.out.len]; omega)] at this
        exact this
      clear HA
      go_wp2_with fail
      go_loopw [6] (fun i wr => ∃ k' : Nat, k' ≤ k ∧ i = .int .i64 k' ∧ Hid ((ws.take k').all (fun x => x.2.length == 128) = true) ∧ Hid (Below w.heap.size w wr)) (fun i _ => k - (intOf i).toNat)
      case atStart => exact ⟨0, Nat.zero_le _, rfl, by simp [Hid], HB⟩
      case round =>
        clear HB
        obtain ⟨k', hk', rfl, HA, HB⟩ := hrel
        by_cases hlt : k' < k
        · obtain ⟨x, hx⟩ : ∃ x, ws[k']? = some x := ⟨_, List.getElem?_eq_getElem (by rw [HW.out.len]; exact hlt)⟩
          obtain ⟨b, off, rfl, hb, hc0, A', n', c', hc1, hB⟩ := (HW.out.keep (w' := wr) fun b hb => HB.out.block b (HM.out b hb).1).get hx
          have HX := Lib.hid hx
          have hl2 : x.2.length = n' := hB.len
          by_cases h128 : n' = 128
          · have HA2 := Lib.hid (all_take HX.out HA.out (by simp [hl2, h128]))
            subst h128
            clear hx hB hl2
            obtain ⟨y, l⟩ := x
            simp only at hc0
            go_wp2_with fail
            go_roundw
            case rel => exact ⟨k' + 1, by omega, by go_num, HA2, HB⟩
            case measure => simp [intOf]; omega
          · have HF : Hid (fitE N ws = 1) := by
              show _ = _
              unfold fitE
              rw [if_pos HALL.out, if_neg]
              rw [Bool.not_eq_true]
              exact all_not HX.out (by simp [hl2, h128])
            have g1 : ((n' : Int) != 128) = true := by rw [bne_iff_ne]; omega
            clear hx hB hl2
            obtain ⟨y, l⟩ := x
            simp only at hc0
            go_wp2_with fail
            go_ret
            rw [rgo_bad HF.out (by omega)]
            exact ⟨rfl, _, ⟨v, rfl, H.out.keep fun b hb => (HB.out.block b (H.out.lt b hb))⟩, Chg.of_below HB.out, fun b hb => .inl hb⟩
        · obtain rfl : k' = k := by omega
          have HF : Hid (fitE N ws = 0) := by
            have := HA.out
            rw [List.take_of_length_le (by rw [HW.out.len]; omega)] at this
            show _ = _
            unfold fitE
            rw [if_pos HALL.out, if_pos this]
          have HFX := Lib.hid (fitE_zero HF.out)
          clear HA HALL
          go_wp2_with fail
          go_loopw [7] (fun i wr => ∃ k qk vk, k ≤ k' ∧ i = .int .i64 (k : Int) ∧ Hid (RPut w r N (rowns r v) q ws k wr qk vk)) (fun i _ => k' - (intOf i).toNat)
          case atStart => exact ⟨0, q, v, Nat.zero_le _, rfl, H.out.keep (fun b hb => HB.out.block b (H.out.lt b hb)), rfl, rfl, Chg.of_below HB.out, fun g hg => .inl (by simp [rowns, hg])⟩
          case round =>
            clear HB
            obtain ⟨j, qk, vk, hj, rfl, HR⟩ := hrel
            by_cases hlt : j < k'
            · obtain ⟨x, hx⟩ : ∃ x, ws[j]? = some x := ⟨_, List.getElem?_eq_getElem (by rw [HW.out.len]; exact hlt)⟩
              obtain ⟨⟨m, hm, hmN⟩, hl⟩ := HFX.out x (List.mem_of_getElem? hx)
              have HX := Lib.hid hx
              obtain ⟨y, l⟩ := x
              simp only at hm hl
              subst hm
              have HL := Lib.hid hl
              clear hx hl
              go_wp2_with fail
              refine (spark_any HR.out.1).mono ?_
              rintro e w2 ⟨rfl, hq⟩
              have HQ := Lib.hid hq
              clear hq
              cases hp : qk.pow with
              | false =>
                have HE : Hid (q.putGo ws = (11, qk.spark)) := by
                  show _ = _
                  rw [HR.out.2.1, drop_at HX.out]
                  simp [RD.putGo, hp]
                clear hp
                go_wp2_with fail
                go_ret
                rw [rgo_ok HF.out, HE.out]
                refine ⟨rfl, rowns r vk, ⟨vk, rfl, HQ.out.1⟩, HR.out.2.2.2.1.trans HQ.out.2 (fun b hb => .inl (by simp at hb; simp [rowns, hb])), fun b hb => ?_⟩
                simp only [rowns, List.mem_cons, Option.mem_toList] at hb
                rcases hb with rfl | hb
                · exact .inl (by simp [rowns])
                · exact HR.out.2.2.2.2 b hb
              | true =>
                have HE : Hid (q.putGo ws = (qk.spark.add m l).putGo (ws.drop (j + 1))) := by
                  show _ = _
                  rw [HR.out.2.1, drop_at HX.out]
                  simp [RD.putGo, hp]
                clear hp
                go_wp2_with fail
                obtain ⟨b, off, hAe, hmb, hc0, A', n', c', hc1, hBt⟩ := (HW.out.keep (w' := w2) fun q hq => by
                  have h1 := HR.out.2.2.2.1.block q (HM.out q hq).1 (HM.out q hq).2
                  have hne : q ∉ [r] := fun e => (HM.out q hq).2 (by simp at e; simp [rowns, e])
                  rw [HQ.out.2.block q (Nat.lt_of_lt_of_le (HM.out q hq).1 HR.out.2.2.2.1.size) hne, h1]).get HX.out
                subst hAe
                have hn' : n' = 128 := by rw [← hBt.len]; exact HL.out
                subst hn'
                simp only at hc0 hBt
                have hsz2 : w.heap.size ≤ w2.heap.size := Nat.le_trans HR.out.2.2.2.1.size HQ.out.2.size
                have HC2 : Hid (Chg (rowns r v) w w2) := HR.out.2.2.2.1.trans HQ.out.2 (fun b hb => .inl (by simp at hb; simp [rowns, hb]))
                have hlen2 : qk.spark.list.length = q.list.length + j := by rw [spark_list]; exact HR.out.2.2.1
                obtain ⟨g, cap, w7, hap⟩ := app71 (w := w2.drew) (ownsRow_keep (w := w2) HQ.out.1.own fun _ _ => rfl) (dc ⟨m, l, false⟩) rfl (dc_one _) (by
                  have := HBY.out
                  rw [hlen2]; omega)
                obtain ⟨hrun, hown, hgrow, hat, hgl⟩ := hap
                obtain ⟨A5, c5, hv5, _, _⟩ := HQ.out.1.slice
                have hMne : ∀ q, M q → some q ≠ vk.ownBlock := fun q hq e => by
                  rcases HR.out.2.2.2.2 q e.symm with g1 | g1
                  · exact (HM.out q hq).2 g1
                  · have := (HM.out q hq).1; omega
                have hrl2 : r < w2.heap.size := HQ.out.1.st.lt
                have hal : (w2.drew.alloc (.cells (dc ⟨m, l, false⟩).toArray 71)).heap.size = w2.heap.size + 1 := by simp
                have hfar : ∀ q, q < w2.heap.size → some q ≠ vk.ownBlock → w7.heap[q]? = w2.heap[q]? := fun q hq hn =>
                  (hgrow.block q (by omega) hn).trans (Below.heap_alloc w2.drew _ q hq)
                have hrv : some r ≠ vk.ownBlock := fun e => HQ.out.1.ne e.symm
                have hst7 := HQ.out.1.st.keep (hfar r hrl2 hrv)
                have hc7 := hst7.c1
                have hf7 := hst7.fr 1
                have hgr : g ≠ r := by
                  rcases hat with e | e
                  · exact fun e' => HQ.out.1.ne (by rw [e, e'])
                  · have : w2.drew.heap.size = w2.heap.size := rfl
                    omega
                have HR8 : Hid (RPut w r N (rowns r v) q ws (j + 1) (w7.setCell ⟨r, 1, none⟩ (.slice (some ⟨g, 0, none⟩) (qk.spark.list.length + 1) cap)) (qk.spark.add m l) (.slice (some ⟨g, 0, none⟩) (qk.spark.list.length + 1) cap)) := by
                  refine ⟨⟨heap_setCell_at hst7 _, ?_, HQ.out.1.lo, HQ.out.1.hi, by simp [Value.ownBlock]; exact hgr, HQ.out.1.n1⟩, HE.out, ?_, ((HC2.out.drew.alloc _).grown hgrow HR.out.2.2.2.2).setCell (.inl (by simp [rowns])) _, fun q hq => ?_⟩
                  · have := ownsRow_keep (w' := w7.setCell ⟨r, 1, none⟩ (.slice (some ⟨g, 0, none⟩) (qk.spark.list.length + 1) cap)) hown (fun q hq => Below.heap_setCell _ _ _ _ (by simp [Value.ownBlock] at hq; rw [← hq]; exact hgr))
                    simpa [RD.add] using this
                  · simp only [RD.add, List.length_append, List.length_singleton]; omega
                  · simp [Value.ownBlock] at hq
                    subst hq
                    rcases hat with e | e
                    · exact HR.out.2.2.2.2 g e
                    · right; have : w2.drew.heap.size = w2.heap.size := rfl; omega
                have HSS : Hid (∀ w', (∀ q, M q → w'.heap[q]? = w2.heap[q]?) → SS w' b off j m A' c' l) := fun w' hk => ss_of hc0 hc1 hBt hmb hk
                have HS0 : Hid (SS w2.drew b off j m A' c' l) := HSS.out _ fun _ _ => rfl
                have HS1 : Hid (SS (w2.drew.alloc (.cells #[.int .i64 (m : Int), .string ⟨l.toArray⟩, .bool false] 71)) b off j m A' c' l) := HSS.out _ fun q hq => Below.heap_alloc w2.drew _ q (by have := (HM.out q hq).1; show q < w2.heap.size; omega)
                have HS2 : Hid (SS w7 b off j m A' c' l) := HSS.out _ fun q hq => hfar q (by have := (HM.out q hq).1; omega) (hMne q hq)
                have HS3 : Hid (SS (w7.setCell ⟨r, 1, none⟩ (.slice (some ⟨g, 0, none⟩) (qk.spark.list.length + 1) cap)) b off j m A' c' l) := HSS.out _ fun q hq => by
                  have hqr : q ≠ r := fun e => (HM.out q hq).2 (by simp [rowns, e])
                  rw [Below.heap_setCell _ _ _ _ hqr]
                  exact hfar q (by have := (HM.out q hq).1; omega) (hMne q hq)
                have h1c := HQ.out.1.st.c1
                rw [hv5] at h1c hrun hc7
                have HRUN : Hid ((Builtin.append_ #[63, 63] 63 #[.slice A5 qk.spark.list.length c5, .slice (some ⟨w2.drew.heap.size, 0, none⟩) 1 1]).run Try.prog (w2.drew.alloc (.cells #[.int .i64 (m : Int), .string ⟨l.toArray⟩, .bool false] 71)) = .ok (.slice (some ⟨g, 0, none⟩) (qk.spark.list.length + 1) cap) w7) := hrun
                have i0 : (0 : Int) ≤ (j : Int) := Int.natCast_nonneg _
                have i1 : (j : Int) < (k' : Int) := by omega
                unfold SS at HS0 HS1 HS2 HS3
                clear hc0 hc1 hBt hsz2 hlen2 hrun hown hgrow hat hgl hv5 hMne hal hfar hrv hst7 hgr HSS HC2 HX
                refine wp_region_noPanic ?_
                refine wp_region_held_drew (S := fun w' => w'.cell? ⟨b, off + j * 2, none⟩ = some (.int .i64 (m : Int)) ∧ w'.cell? ⟨b, off + j * 2 + 1, none⟩ = some (.slice A' 128 c') ∧ (convert 41 9 (.slice A' 128 c')).run Try.prog w' = .ok (.string ⟨l.toArray⟩) w') (by kernel_rfl) HS0.out (fun hHeld => ?_)
                refine wpAnyH_take (i := 0) (oi := { dst := some 58, op := Op.move (Operand.tmp 0), type := 28, pos := "ref.go:84", after := #[], guard := none }) (v := .pointer (some ⟨r, 0, none⟩)) rfl (by kernel_rfl) (by kernel_rfl) (by kernel_rfl) (fun _ _ _ h => h) (Or.inl ⟨by rfl, fun w hw => by (try dsimp only at hw); go_simp⟩) (by assumption) ?_
                simp only [Act.put, List.setIfInBounds_toArray, List.set_cons_zero, List.set_cons_succ]
                refine wpAnyH_take (i := 1) (oi := { dst := some 59, op := Op.move (Operand.tmp 0), type := 28, pos := "ref.go:84", after := #[], guard := none }) (v := .pointer (some ⟨r, 0, none⟩)) rfl (by kernel_rfl) (by kernel_rfl) (by kernel_rfl) (fun _ _ _ h => h) (Or.inl ⟨by rfl, fun w hw => by (try dsimp only at hw); go_simp⟩) (by assumption) ?_
                simp only [Act.put, List.setIfInBounds_toArray, List.set_cons_zero, List.set_cons_succ]
                refine wpAnyH_take (i := 2) (oi := { dst := some 60, op := Op.nilCheck (Operand.tmp 59), type := 0, pos := "ref.go:84", after := #[{ on := 1, ground := Ground.data }], guard := none }) (v := .pointer (some ⟨r, 0, none⟩)) rfl (by kernel_rfl) (by kernel_rfl) (by kernel_rfl) (fun _ _ _ h => h) (Or.inl ⟨by rfl, fun w hw => by (try dsimp only at hw); go_simp⟩) (by assumption) ?_
                simp only [Act.put, List.setIfInBounds_toArray, List.set_cons_zero, List.set_cons_succ]
                refine wpAnyH_take (i := 3) (oi := { dst := some 61, op := Op.fieldAddr 65 (Operand.tmp 60) 1, type := 0, pos := "ref.go:84", after := #[{ on := 2, ground := Ground.data }], guard := none }) (v := .pointer (some ⟨r, 1, none⟩)) rfl (by kernel_rfl) (by kernel_rfl) (by kernel_rfl) (fun _ _ _ h => h) (Or.inl ⟨by rfl, fun w hw => by (try dsimp only at hw); go_simp⟩) (by assumption) ?_
                simp only [Act.put, List.setIfInBounds_toArray, List.set_cons_zero, List.set_cons_succ]
                refine wpAnyH_take (i := 5) (oi := { dst := some 63, op := Op.move (Operand.tmp 1), type := 32, pos := "ref.go:84", after := #[], guard := none }) (v := .slice (some ⟨b, off, none⟩) k' c) rfl (by kernel_rfl) (by kernel_rfl) (by kernel_rfl) (fun _ _ _ h => h) (Or.inl ⟨by rfl, fun w hw => by (try dsimp only at hw); go_simp⟩) (by assumption) ?_
                simp only [Act.put, List.setIfInBounds_toArray, List.set_cons_zero, List.set_cons_succ]
                refine wpAnyH_take (i := 6) (oi := { dst := some 64, op := Op.move (Operand.tmp 7), type := 3, pos := "ref.go:84", after := #[], guard := none }) (v := .int .i64 (j : Int)) rfl (by kernel_rfl) (by kernel_rfl) (by kernel_rfl) (fun _ _ _ h => h) (Or.inl ⟨by rfl, fun w hw => by (try dsimp only at hw); go_simp⟩) (by assumption) ?_
                simp only [Act.put, List.setIfInBounds_toArray, List.set_cons_zero, List.set_cons_succ]
                refine wpAnyH_take (i := 7) (oi := { dst := some 65, op := Op.indexAddr 32 (Operand.tmp 63) (Operand.tmp 64), type := 0, pos := "ref.go:84", after := #[{ on := 5, ground := Ground.data }, { on := 6, ground := Ground.data }], guard := none }) (v := .pointer (some ⟨b, off + j * 2, none⟩)) rfl (by kernel_rfl) (by kernel_rfl) (by kernel_rfl) (fun _ _ _ h => h) (Or.inl ⟨by rfl, fun w hw => by (try dsimp only at hw); go_simp⟩) (by assumption) ?_
                simp only [Act.put, List.setIfInBounds_toArray, List.set_cons_zero, List.set_cons_succ]
                refine wpAnyH_take (i := 8) (oi := { dst := some 66, op := Op.fieldAddr 52 (Operand.tmp 65) 0, type := 0, pos := "ref.go:84", after := #[{ on := 7, ground := Ground.data }], guard := none }) (v := .pointer (some ⟨b, off + j * 2, none⟩)) rfl (by kernel_rfl) (by kernel_rfl) (by kernel_rfl) (fun _ _ _ h => h) (Or.inl ⟨by rfl, fun w hw => by (try dsimp only at hw); go_simp⟩) (by assumption) ?_
                simp only [Act.put, List.setIfInBounds_toArray, List.set_cons_zero, List.set_cons_succ]
                refine wpAnyH_take (i := 9) (oi := { dst := some 67, op := Op.load 3 (Operand.tmp 66), type := 3, pos := "ref.go:84", after := #[{ on := 8, ground := Ground.data }], guard := none }) (v := .int .i64 (m : Int)) rfl (by kernel_rfl) (by kernel_rfl) (by kernel_rfl) (fun _ _ _ h => h) (Or.inl ⟨by rfl, fun w hw => by (try dsimp only at hw); go_simp⟩) (by assumption) ?_
                simp only [Act.put, List.setIfInBounds_toArray, List.set_cons_zero, List.set_cons_succ]
                refine wpAnyH_take (i := 10) (oi := { dst := some 68, op := Op.move (Operand.tmp 1), type := 32, pos := "ref.go:84", after := #[], guard := none }) (v := .slice (some ⟨b, off, none⟩) k' c) rfl (by kernel_rfl) (by kernel_rfl) (by kernel_rfl) (fun _ _ _ h => h) (Or.inl ⟨by rfl, fun w hw => by (try dsimp only at hw); go_simp⟩) (by assumption) ?_
                simp only [Act.put, List.setIfInBounds_toArray, List.set_cons_zero, List.set_cons_succ]
                refine wpAnyH_take (i := 11) (oi := { dst := some 69, op := Op.move (Operand.tmp 7), type := 3, pos := "ref.go:84", after := #[], guard := none }) (v := .int .i64 (j : Int)) rfl (by kernel_rfl) (by kernel_rfl) (by kernel_rfl) (fun _ _ _ h => h) (Or.inl ⟨by rfl, fun w hw => by (try dsimp only at hw); go_simp⟩) (by assumption) ?_
                simp only [Act.put, List.setIfInBounds_toArray, List.set_cons_zero, List.set_cons_succ]
                refine wpAnyH_take (i := 12) (oi := { dst := some 70, op := Op.indexAddr 32 (Operand.tmp 68) (Operand.tmp 69), type := 0, pos := "ref.go:84", after := #[{ on := 10, ground := Ground.data }, { on := 11, ground := Ground.data }], guard := none }) (v := .pointer (some ⟨b, off + j * 2, none⟩)) rfl (by kernel_rfl) (by kernel_rfl) (by kernel_rfl) (fun _ _ _ h => h) (Or.inl ⟨by rfl, fun w hw => by (try dsimp only at hw); go_simp⟩) (by assumption) ?_
                simp only [Act.put, List.setIfInBounds_toArray, List.set_cons_zero, List.set_cons_succ]
                refine wpAnyH_take (i := 13) (oi := { dst := some 71, op := Op.fieldAddr 52 (Operand.tmp 70) 1, type := 0, pos := "ref.go:84", after := #[{ on := 12, ground := Ground.data }], guard := none }) (v := .pointer (some ⟨b, off + j * 2 + 1, none⟩)) rfl (by kernel_rfl) (by kernel_rfl) (by kernel_rfl) (fun _ _ _ h => h) (Or.inl ⟨by rfl, fun w hw => by (try dsimp only at hw); go_simp⟩) (by assumption) ?_
                simp only [Act.put, List.setIfInBounds_toArray, List.set_cons_zero, List.set_cons_succ]
                refine wpAnyH_take (i := 14) (oi := { dst := some 72, op := Op.load 41 (Operand.tmp 71), type := 41, pos := "ref.go:84", after := #[{ on := 13, ground := Ground.data }], guard := none }) (v := .slice A' 128 c') rfl (by kernel_rfl) (by kernel_rfl) (by kernel_rfl) (fun _ _ _ h => h) (Or.inl ⟨by rfl, fun w hw => by (try dsimp only at hw); go_simp⟩) (by assumption) ?_
                simp only [Act.put, List.setIfInBounds_toArray, List.set_cons_zero, List.set_cons_succ]
                refine wpAnyH_take (i := 15) (oi := { dst := some 73, op := Op.convert 41 9 (Operand.tmp 72), type := 9, pos := "ref.go:84", after := #[{ on := 14, ground := Ground.data }], guard := none }) (v := .string ⟨l.toArray⟩) rfl (by kernel_rfl) (by kernel_rfl) (by kernel_rfl) (fun _ _ _ h => h) (Or.inl ⟨by rfl, fun w hw => by (try dsimp only at hw); go_simp⟩) (by assumption) ?_
                simp only [Act.put, List.setIfInBounds_toArray, List.set_cons_zero, List.set_cons_succ]
                refine wpAnyH_take (i := 16) (oi := { dst := some 74, op := Op.build 71 #[(0, Operand.tmp 67), (1, Operand.tmp 73), (2, Operand.const (Value.bool false))], type := 71, pos := "ref.go:84", after := #[{ on := 9, ground := Ground.data }, { on := 15, ground := Ground.data }], guard := none }) (v := .agg #[.int .i64 (m : Int), .string ⟨l.toArray⟩, .bool false]) rfl (by kernel_rfl) (by kernel_rfl) (by kernel_rfl) (fun _ _ _ h => h) (Or.inl ⟨by rfl, fun w hw => by (try dsimp only at hw); go_simp⟩) (by assumption) ?_
                simp only [Act.put, List.setIfInBounds_toArray, List.set_cons_zero, List.set_cons_succ]
                refine wpAnyH_ready (rs := [4, 17]) (by kernel_rfl) (by simp) ?_
                refine AllReadyH.cons (o := { dst := some 62, op := Op.load 63 (Operand.tmp 61), type := 63, pos := "ref.go:84", after := #[{ on := 3, ground := Ground.data }], guard := none }) rfl (fun K hK => ?_) (AllReadyH.cons (o := { dst := some 75, op := Op.buildSlice 63 1 #[(0, Operand.tmp 74)], type := 63, pos := "ref.go:84", after := #[{ on := 16, ground := Ground.data }], guard := none }) rfl (fun K hK => ?_) AllReadyH.nil)
                · skip
                  rw [if_pos (by rfl)]
                  refine wp_load63 (.tmp 61) rfl ⟨r, 1, none⟩ rfl (.slice A5 qk.spark.list.length c5) (by first | exact h1c | (rw [World.cell?_alloc_lt _ _ _ hrl2]; exact h1c)) ?_
                  simp only [Act.put, List.setIfInBounds_toArray, List.set_cons_zero, List.set_cons_succ]
                  refine hK.out _ _ hHeld (fun hHeld => ?_)
                  clear hK K
                  refine wpAnyH_ready (rs := [17]) (by kernel_rfl) (by simp) ?_
                  refine AllReadyH.cons (o := { dst := some 75, op := Op.buildSlice 63 1 #[(0, Operand.tmp 74)], type := 63, pos := "ref.go:84", after := #[{ on := 16, ground := Ground.data }], guard := none }) rfl (fun K hK => ?_) AllReadyH.nil
                  refine step_buildSlice_run rfl 63 1 (.tmp 74) rfl (.agg #[.int .i64 (m : Int), .string ⟨l.toArray⟩, .bool false]) rfl _ _ (build63 _ _ _ w2.drew) ?_
                  simp only [Act.put, List.setIfInBounds_toArray, List.set_cons_zero, List.set_cons_succ]
                  refine hK.out _ _ HS1.out (fun hHeld => ?_)
                  clear hK K
                  refine wpAnyH_ready (rs := [18]) (by kernel_rfl) (by simp) ?_
                  refine AllReadyH.cons (o := { dst := some 76, op := Op.call { callee := Callee.builtin Builtin.append, args := #[Operand.tmp 62, Operand.tmp 75], argTypes := #[63, 63] }, type := 63, pos := "ref.go:84", after := #[{ on := 4, ground := Ground.data }, { on := 17, ground := Ground.data }], guard := none }) rfl (fun K hK => ?_) AllReadyH.nil
                  refine step_append_run rfl _ _ 63 rfl _ _ _ _ rfl rfl HRUN.out ?_
                  simp only [Act.put, List.setIfInBounds_toArray, List.set_cons_zero, List.set_cons_succ]
                  refine hK.out _ _ HS2.out (fun hHeld => ?_)
                  clear hK K
                  refine wpAnyH_take (i := 19) (oi := { dst := some 77, op := Op.nilCheck (Operand.tmp 58), type := 0, pos := "ref.go:84", after := #[{ on := 0, ground := Ground.data }, { on := 0, ground := Ground.phase }, { on := 1, ground := Ground.phase }, { on := 2, ground := Ground.phase }, { on := 3, ground := Ground.phase }, { on := 4, ground := Ground.phase }, { on := 5, ground := Ground.phase }, { on := 6, ground := Ground.phase }, { on := 7, ground := Ground.phase }, { on := 8, ground := Ground.phase }, { on := 9, ground := Ground.phase }, { on := 10, ground := Ground.phase }, { on := 11, ground := Ground.phase }, { on := 12, ground := Ground.phase }, { on := 13, ground := Ground.phase }, { on := 14, ground := Ground.phase }, { on := 15, ground := Ground.phase }, { on := 16, ground := Ground.phase }, { on := 17, ground := Ground.phase }, { on := 18, ground := Ground.phase }], guard := none }) (v := .pointer (some ⟨r, 0, none⟩)) rfl (by kernel_rfl) (by kernel_rfl) (by kernel_rfl) (fun _ _ _ h => h) (Or.inl ⟨by rfl, fun w hw => by (try dsimp only at hw); go_simp⟩) (by assumption) ?_
                  simp only [Act.put, List.setIfInBounds_toArray, List.set_cons_zero, List.set_cons_succ]
                  refine wpAnyH_take (i := 20) (oi := { dst := some 78, op := Op.fieldAddr 65 (Operand.tmp 77) 1, type := 0, pos := "ref.go:84", after := #[{ on := 19, ground := Ground.data }, { on := 0, ground := Ground.phase }, { on := 1, ground := Ground.phase }, { on := 2, ground := Ground.phase }, { on := 3, ground := Ground.phase }, { on := 4, ground := Ground.phase }, { on := 5, ground := Ground.phase }, { on := 6, ground := Ground.phase }, { on := 7, ground := Ground.phase }, { on := 8, ground := Ground.phase }, { on := 9, ground := Ground.phase }, { on := 10, ground := Ground.phase }, { on := 11, ground := Ground.phase }, { on := 12, ground := Ground.phase }, { on := 13, ground := Ground.phase }, { on := 14, ground := Ground.phase }, { on := 15, ground := Ground.phase }, { on := 16, ground := Ground.phase }, { on := 17, ground := Ground.phase }, { on := 18, ground := Ground.phase }], guard := none }) (v := .pointer (some ⟨r, 1, none⟩)) rfl (by kernel_rfl) (by kernel_rfl) (by kernel_rfl) (fun _ _ _ h => h) (Or.inl ⟨by rfl, fun w hw => by (try dsimp only at hw); go_simp⟩) (by assumption) ?_
                  simp only [Act.put, List.setIfInBounds_toArray, List.set_cons_zero, List.set_cons_succ]
                  refine wpAnyH_ready (rs := [21]) (by kernel_rfl) (by simp) ?_
                  refine AllReadyH.cons (o := { dst := none, op := Op.store 63 (Operand.tmp 78) (Operand.tmp 76), type := 0, pos := "ref.go:84", after := #[{ on := 20, ground := Ground.data }, { on := 18, ground := Ground.data }, { on := 18, ground := Ground.chain }, { on := 0, ground := Ground.phase }, { on := 1, ground := Ground.phase }, { on := 2, ground := Ground.phase }, { on := 3, ground := Ground.phase }, { on := 4, ground := Ground.phase }, { on := 5, ground := Ground.phase }, { on := 6, ground := Ground.phase }, { on := 7, ground := Ground.phase }, { on := 8, ground := Ground.phase }, { on := 9, ground := Ground.phase }, { on := 10, ground := Ground.phase }, { on := 11, ground := Ground.phase }, { on := 12, ground := Ground.phase }, { on := 13, ground := Ground.phase }, { on := 14, ground := Ground.phase }, { on := 15, ground := Ground.phase }, { on := 16, ground := Ground.phase }, { on := 17, ground := Ground.phase }, { on := 18, ground := Ground.phase }], guard := none }) rfl (fun K hK => ?_) AllReadyH.nil
                  rw [if_pos (by rfl)]
                  refine wp_store63 (.tmp 78) (.tmp 76) rfl ⟨r, 1, none⟩ _ rfl rfl _ hc7 hf7 ⟨_, _, _, rfl⟩ ?_
                  simp only [Act.put]
                  refine hK.out _ _ HS3.out (fun hHeld => ?_)
                  clear hK K
                  refine wpAnyH_done (by kernel_rfl) ?_ _
                  refine NoPanic.normal ?_
                  go_wp2_with fail
                  go_roundw
                  case rel => exact ⟨j + 1, _, _, by omega, by go_num, HR8⟩
                  case measure => simp [intOf]; omega
                · skip
                  refine step_buildSlice_run rfl 63 1 (.tmp 74) rfl (.agg #[.int .i64 (m : Int), .string ⟨l.toArray⟩, .bool false]) rfl _ _ (build63 _ _ _ w2.drew) ?_
                  simp only [Act.put, List.setIfInBounds_toArray, List.set_cons_zero, List.set_cons_succ]
                  refine hK.out _ _ HS1.out (fun hHeld => ?_)
                  clear hK K
                  refine wpAnyH_ready (rs := [4]) (by kernel_rfl) (by simp) ?_
                  refine AllReadyH.cons (o := { dst := some 62, op := Op.load 63 (Operand.tmp 61), type := 63, pos := "ref.go:84", after := #[{ on := 3, ground := Ground.data }], guard := none }) rfl (fun K hK => ?_) AllReadyH.nil
                  rw [if_pos (by rfl)]
                  refine wp_load63 (.tmp 61) rfl ⟨r, 1, none⟩ rfl (.slice A5 qk.spark.list.length c5) (by first | exact h1c | (rw [World.cell?_alloc_lt _ _ _ hrl2]; exact h1c)) ?_
                  simp only [Act.put, List.setIfInBounds_toArray, List.set_cons_zero, List.set_cons_succ]
                  refine hK.out _ _ hHeld (fun hHeld => ?_)
                  clear hK K
                  refine wpAnyH_ready (rs := [18]) (by kernel_rfl) (by simp) ?_
                  refine AllReadyH.cons (o := { dst := some 76, op := Op.call { callee := Callee.builtin Builtin.append, args := #[Operand.tmp 62, Operand.tmp 75], argTypes := #[63, 63] }, type := 63, pos := "ref.go:84", after := #[{ on := 4, ground := Ground.data }, { on := 17, ground := Ground.data }], guard := none }) rfl (fun K hK => ?_) AllReadyH.nil
                  refine step_append_run rfl _ _ 63 rfl _ _ _ _ rfl rfl HRUN.out ?_
                  simp only [Act.put, List.setIfInBounds_toArray, List.set_cons_zero, List.set_cons_succ]
                  refine hK.out _ _ HS2.out (fun hHeld => ?_)
                  clear hK K
                  refine wpAnyH_take (i := 19) (oi := { dst := some 77, op := Op.nilCheck (Operand.tmp 58), type := 0, pos := "ref.go:84", after := #[{ on := 0, ground := Ground.data }, { on := 0, ground := Ground.phase }, { on := 1, ground := Ground.phase }, { on := 2, ground := Ground.phase }, { on := 3, ground := Ground.phase }, { on := 4, ground := Ground.phase }, { on := 5, ground := Ground.phase }, { on := 6, ground := Ground.phase }, { on := 7, ground := Ground.phase }, { on := 8, ground := Ground.phase }, { on := 9, ground := Ground.phase }, { on := 10, ground := Ground.phase }, { on := 11, ground := Ground.phase }, { on := 12, ground := Ground.phase }, { on := 13, ground := Ground.phase }, { on := 14, ground := Ground.phase }, { on := 15, ground := Ground.phase }, { on := 16, ground := Ground.phase }, { on := 17, ground := Ground.phase }, { on := 18, ground := Ground.phase }], guard := none }) (v := .pointer (some ⟨r, 0, none⟩)) rfl (by kernel_rfl) (by kernel_rfl) (by kernel_rfl) (fun _ _ _ h => h) (Or.inl ⟨by rfl, fun w hw => by (try dsimp only at hw); go_simp⟩) (by assumption) ?_
                  simp only [Act.put, List.setIfInBounds_toArray, List.set_cons_zero, List.set_cons_succ]
                  refine wpAnyH_take (i := 20) (oi := { dst := some 78, op := Op.fieldAddr 65 (Operand.tmp 77) 1, type := 0, pos := "ref.go:84", after := #[{ on := 19, ground := Ground.data }, { on := 0, ground := Ground.phase }, { on := 1, ground := Ground.phase }, { on := 2, ground := Ground.phase }, { on := 3, ground := Ground.phase }, { on := 4, ground := Ground.phase }, { on := 5, ground := Ground.phase }, { on := 6, ground := Ground.phase }, { on := 7, ground := Ground.phase }, { on := 8, ground := Ground.phase }, { on := 9, ground := Ground.phase }, { on := 10, ground := Ground.phase }, { on := 11, ground := Ground.phase }, { on := 12, ground := Ground.phase }, { on := 13, ground := Ground.phase }, { on := 14, ground := Ground.phase }, { on := 15, ground := Ground.phase }, { on := 16, ground := Ground.phase }, { on := 17, ground := Ground.phase }, { on := 18, ground := Ground.phase }], guard := none }) (v := .pointer (some ⟨r, 1, none⟩)) rfl (by kernel_rfl) (by kernel_rfl) (by kernel_rfl) (fun _ _ _ h => h) (Or.inl ⟨by rfl, fun w hw => by (try dsimp only at hw); go_simp⟩) (by assumption) ?_
                  simp only [Act.put, List.setIfInBounds_toArray, List.set_cons_zero, List.set_cons_succ]
                  refine wpAnyH_ready (rs := [21]) (by kernel_rfl) (by simp) ?_
                  refine AllReadyH.cons (o := { dst := none, op := Op.store 63 (Operand.tmp 78) (Operand.tmp 76), type := 0, pos := "ref.go:84", after := #[{ on := 20, ground := Ground.data }, { on := 18, ground := Ground.data }, { on := 18, ground := Ground.chain }, { on := 0, ground := Ground.phase }, { on := 1, ground := Ground.phase }, { on := 2, ground := Ground.phase }, { on := 3, ground := Ground.phase }, { on := 4, ground := Ground.phase }, { on := 5, ground := Ground.phase }, { on := 6, ground := Ground.phase }, { on := 7, ground := Ground.phase }, { on := 8, ground := Ground.phase }, { on := 9, ground := Ground.phase }, { on := 10, ground := Ground.phase }, { on := 11, ground := Ground.phase }, { on := 12, ground := Ground.phase }, { on := 13, ground := Ground.phase }, { on := 14, ground := Ground.phase }, { on := 15, ground := Ground.phase }, { on := 16, ground := Ground.phase }, { on := 17, ground := Ground.phase }, { on := 18, ground := Ground.phase }], guard := none }) rfl (fun K hK => ?_) AllReadyH.nil
                  rw [if_pos (by rfl)]
                  refine wp_store63 (.tmp 78) (.tmp 76) rfl ⟨r, 1, none⟩ _ rfl rfl _ hc7 hf7 ⟨_, _, _, rfl⟩ ?_
                  simp only [Act.put]
                  refine hK.out _ _ HS3.out (fun hHeld => ?_)
                  clear hK K
                  refine wpAnyH_done (by kernel_rfl) ?_ _
                  refine NoPanic.normal ?_
                  go_wp2_with fail
                  go_roundw
                  case rel => exact ⟨j + 1, _, _, by omega, by go_num, HR8⟩
                  case measure => simp [intOf]; omega
            · obtain rfl : j = k' := by omega
              have HE : Hid (q.putGo ws = (0, qk)) := by
                show _ = _
                rw [HR.out.2.1, List.drop_of_length_le (by rw [HW.out.len]; omega)]
                rfl
              go_wp2_with fail
              go_ret
              rw [rgo_ok HF.out, HE.out]
              refine ⟨rfl, rowns r vk, ⟨vk, rfl, HR.out.1⟩, HR.out.2.2.2.1, fun b hb => ?_⟩
              simp only [rowns, List.mem_cons, Option.mem_toList] at hb
              rcases hb with rfl | hb
              · exact .inl (by simp [rowns])
              · exact HR.out.2.2.2.2 b hb
theorem rput_dead {w : World} {r N : Nat} {v : Value} {fuse : Int} {A : Option Addr} {n c : Nat} (h : RSt w r N v fuse true) :
    Calls Try.prog 13 #[.pointer (some ⟨r, 0, none⟩), .slice A n c] w fun e w' => e = .returned (.int .i64 11) ∧ w = w' := by
  have c3 := h.c3
  clear h
  go_enter Try.func13, Try.ntmps13
  go_wp2_with fail
  go_ret
  exact ⟨rfl, rfl⟩
theorem rput_any {w : World} {r : Nat} {O : List Nat} {N : Nat} {q : RD} {M : Nat → Prop} {A : Option Addr} {n c : Nat} {ws : List Wr} (h : RDrv w r O N q)
    (hW : Wrs w M A n c ws) (hM : ∀ b, M b → b < w.heap.size ∧ b ∉ O) (hb : (q.list.length + n) * 32 ≤ 140737488355328) :
    Calls Try.prog 13 #[.pointer (some ⟨r, 0, none⟩), .slice A n c] w fun e w' => e = .returned (.int .i64 (q.put N ws).1) ∧ RDid w r O N (q.put N ws).2 w' := by
  obtain ⟨v, rfl, h⟩ := h
  cases hd : q.dead with
  | true =>
    have hst := h.st
    rw [hd] at hst
    have e : q.put N ws = (11, q) := by simp [RD.put, hd]
    rw [e]
    refine (rput_dead hst).mono ?_
    rintro e w' ⟨rfl, rfl⟩
    exact ⟨rfl, _, ⟨v, rfl, h⟩, Chg.refl _ _, fun b hb => .inl hb⟩
  | false =>
    have e : q.put N ws = rgo q N ws := by simp [RD.put, hd, rgo]
    rw [e]
    exact rput_go h hd hW hM hb
end Go.Proofs.Yticbfjflhojolaa
