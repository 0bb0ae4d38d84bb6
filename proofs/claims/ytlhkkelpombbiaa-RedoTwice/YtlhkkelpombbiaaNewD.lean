/- The drive in memory; New, walked. -/
import Derived.Test.YtlhkkelpombbiaaSmall
import Derived.Deep.RegionHeld3
import Derived.Laws.MakeOwn
namespace Go.Proofs.Ytlhkkelpombbiaa
open Go.RowKit
set_option linter.unusedVariables false

/-- A write, as it lies in memory. -/
def wc (p : Nat × List UInt8) : List Value := .int .i64 (p.1 : Int) :: bc p.2
theorem wc_len {p : Nat × List UInt8} (h : p.2.length = 128) : (wc p).length = 129 := by simp [wc, bc_len, h]
theorem wc_one (p : Nat × List UInt8) : ∀ v ∈ wc p, v.oneCell' = true := by
  intro v hv
  simp only [wc, List.mem_cons] at hv
  rcases hv with rfl | hv
  · rfl
  · exact bc_one _ v hv
def owns (d bn bl : Nat) (vs : Value) : List Nat := d :: bn :: bl :: vs.ownBlock.toList
/-- A drive of N sectors, in the state s, in the block d. -/
structure DrvAt (w : World) (d N : Nat) (s : DS) (bn cn bl cl : Nat) (vs : Value) : Prop where
  st : St w d (.slice (some ⟨bn, 0, none⟩) N cn) (.slice (some ⟨bl, 0, none⟩) N cl) vs s.fused s.left s.down
  now : Secs w bn s.now
  las : Secs w bl s.lasting
  sin : w.ownsRow 0 95 129 vs s.since.length (s.since.flatMap wc)
  ok : s.Ok N
  n0 : 64 ≤ N
  n1 : N ≤ 1024
  c0 : N ≤ cn
  c1 : N ≤ cl
  nd : (owns d bn bl vs).Nodup
def Drv (w : World) (d : Nat) (O : List Nat) (N : Nat) (s : DS) : Prop := ∃ bn cn bl cl vs, O = owns d bn bl vs ∧ DrvAt w d N s bn cn bl cl vs
theorem ownsRow_keep {w w' : World} {base e size n : Nat} {v : Value} {xs : List Value} (h : w.ownsRow base e size v n xs) (he : ∀ b, v.ownBlock = some b → w'.heap[b]? = w.heap[b]?) : w'.ownsRow base e size v n xs := by
  refine ⟨h.1, ?_⟩
  rcases h.2 with h0 | ⟨g, cap, cur, rfl, hg, hh, rest⟩
  · exact .inl h0
  · exact .inr ⟨g, cap, cur, rfl, hg, (he g rfl).trans hh, rest⟩
section
variable {w w' : World} {d N bn cn bl cl : Nat} {s : DS} {vs : Value} {O O' : List Nat}
theorem DrvAt.keep (h : DrvAt w d N s bn cn bl cl vs) (he : ∀ b ∈ owns d bn bl vs, w'.heap[b]? = w.heap[b]?) : DrvAt w' d N s bn cn bl cl vs :=
  ⟨(he d (by simp [owns])).trans h.st, h.now.keep (he bn (by simp [owns])), h.las.keep (he bl (by simp [owns])), ownsRow_keep h.sin fun b hb => he b (by simp [owns, hb]), h.ok, h.n0, h.n1, h.c0, h.c1, h.nd⟩
theorem Drv.keep (h : Drv w d O N s) (he : ∀ b ∈ O, w'.heap[b]? = w.heap[b]?) : Drv w' d O N s := by
  obtain ⟨bn, cn, bl, cl, vs, rfl, h⟩ := h
  exact ⟨bn, cn, bl, cl, vs, rfl, h.keep he⟩
theorem DrvAt.lt (h : DrvAt w d N s bn cn bl cl vs) : ∀ b ∈ owns d bn bl vs, b < w.heap.size := by
  intro b hb
  simp only [owns, List.mem_cons, Option.mem_toList] at hb
  rcases hb with rfl | rfl | rfl | hb
  · exact h.st.lt
  · exact h.now.lt
  · exact h.las.lt
  · exact (h.sin.lt b hb).2
theorem Drv.lt (h : Drv w d O N s) : ∀ b ∈ O, b < w.heap.size := by
  obtain ⟨bn, cn, bl, cl, vs, rfl, h⟩ := h
  exact h.lt
/-- Another's call leaves a drive alone. -/
theorem Drv.apart (h : Drv w d O N s) (hc : Chg O' w w') (hO : ∀ b ∈ O, b ∉ O') : Drv w' d O N s := h.keep fun b hb => hc.block b (h.lt b hb) (hO b hb)
end
theorem i67 : (Try.prog.info? 80).map (fun i => (i.zero, i.size, i.bytes)) = some (some (.agg (bc zeros).toArray), 128, 128) := by kernel_rfl
theorem i69 : (Try.prog.info? 95).map (fun i => (i.zero, i.size, i.bytes)) = some (some (.agg (wc (0, zeros)).toArray), 129, 136) := by kernel_rfl
theorem s67 : (Try.prog.info? 80).map (·.size) = some 128 := by kernel_rfl
theorem s69 : (Try.prog.info? 95).map (·.size) = some 129 := by kernel_rfl
def mk (N : Nat) : Array Value := madeCells (bc zeros).toArray (N * 128)
theorem make_run (N : Nat) (hN : N ≤ 1024) (w : World) : (Instr.makeSlice 81 (.int .i64 N) (.int .i64 N)).run Try.prog w = .ok (.slice (some ⟨w.heap.size, 0, none⟩) N N) (w.alloc (.cells (mk N) 80)) := by
  have h := i67
  cases hq : Try.prog.info? 80 with
  | none => simp [hq] at h
  | some i =>
    simp only [hq, Option.map_some, Option.some.injEq, Prod.mk.injEq] at h
    have := run_makeSlice (P := Try.prog) w 81 80 i _ Try.underlying81 hq h.1 .i64 .i64 N N (by omega) (by omega) (by rw [h.2.1]; simp; omega) (by rw [h.2.2]; omega) (by omega)
    rw [this, h.2.1]
    rfl
theorem zeros_len : zeros.length = 128 := List.length_replicate
theorem bcz_len : (bc zeros).length = 128 := by rw [bc_len, zeros_len]
theorem zeros_get {k : Nat} (h : k < 128) : (bc zeros)[k]? = some (.int .u8 0) := by
  unfold bc zeros
  rw [List.getElem?_map, List.getElem?_replicate, if_pos h]
  rfl
theorem mk_size (N : Nat) : (mk N).size = N * 128 := by simp [mk, madeCells]
theorem mk_get (N j : Nat) (h : j < N * 128) : (mk N)[j]? = some (.int .u8 0) := by
  have hz := bcz_len
  have : j % 128 < 128 := Nat.mod_lt _ (by omega)
  have h2 := zeros_get this
  simp only [mk, madeCells, Array.getElem?_map, Array.getElem?_range, h, Option.map_some, List.size_toArray, hz, if_true]
  simp [h2]
theorem secs_mk {w : World} {b N : Nat} (h : w.heap[b]? = some (.cells (mk N) 80 (0, 0))) : Secs w b (List.replicate N zeros) := by
  refine ⟨⟨_, h, by simp [mk_size]⟩, fun i s hi => ?_⟩
  rw [List.getElem?_replicate] at hi
  split at hi
  · rename_i hN
    cases hi
    refine ⟨zeros_len, fun j v hj => ?_⟩
    have hj' : j < (bc zeros).length := (List.getElem?_eq_some_iff.1 hj).1
    rw [bcz_len] at hj'
    rw [zeros_get hj'] at hj
    cases hj
    have : (i + 1) * 128 ≤ N * 128 := Nat.mul_le_mul_right _ hN
    rw [cell_of h, mk_get N _ (by omega)]
  · cases hi
theorem drv_new {w : World} {d bn bl N : Nat} (h0 : 64 ≤ N) (h1 : N ≤ 1024) (hd : w.heap[d]? = some (.cells #[.slice (some ⟨bn, 0, none⟩) N N, .slice (some ⟨bl, 0, none⟩) N N, .slice none 0 0, .bool false, .int .i64 0, .bool false] 84 (0, 0)))
    (hn : w.heap[bn]? = some (.cells (mk N) 80 (0, 0))) (hl : w.heap[bl]? = some (.cells (mk N) 80 (0, 0))) (g1 : d ≠ bn) (g2 : d ≠ bl) (g3 : bn ≠ bl) : Drv w d (owns d bn bl (.slice none 0 0)) N (newS N) :=
  ⟨bn, N, bl, N, _, rfl, hd, secs_mk hn, secs_mk hl, World.ownsRow_nil _ _ _ _, Ok_new N, h0, h1, Nat.le_refl _, Nat.le_refl _, by simp [owns, Value.ownBlock, g1, g2, g3]⟩
def NewP (N : Nat) (w : World) (e : Ending) (w' : World) : Prop := ∃ d O, e = .returned (.tuple #[.pointer (some ⟨d, 0, none⟩), .int .i64 0]) ∧ Drv w' d O N (newS N) ∧ (∀ b ∈ O, w.heap.size ≤ b) ∧ Below w.heap.size w w'
theorem new_bad (n : Int) (w : World) (h : n < 64 ∨ 1024 < n) : Calls Try.prog 21 #[.int .i64 n] w fun e w' => e = .returned (.tuple #[.pointer none, .int .i64 1]) ∧ w = w' := by
  rcases h with h | h
  · have h1 : decide (n < 64) = true := by simpa using h
    go_enter Try.func21, Try.ntmps21
    go_wp2
    go_ret2
    exact ⟨rfl, rfl⟩
  · have h1 : decide (n < 64) = false := by simp; omega
    have h2 : decide (1024 < n) = true := by simp; omega
    go_enter Try.func21, Try.ntmps21
    go_wp2
    go_ret2
    exact ⟨rfl, rfl⟩
set_option maxHeartbeats 1000000 in
theorem new_any (N : Nat) (w : World) (h0 : 64 ≤ N) (h1 : N ≤ 1024) : Calls Try.prog 21 #[.int .i64 N] w (NewP N w) := by
  have g1 : decide ((N : Int) < 64) = false := by simp; omega
  have g2 : decide (1024 < (N : Int)) = false := by simp; omega
  have hm := make_run N h1
  go_enter Try.func21, Try.ntmps21
  go_wp2
  go_region_held3 (fun _ => True) (trivial) (fail)
  all_goals
    go_wp2
    go_ret2
    have hs1 : (w.alloc (.cells (mk N) 80)).heap.size = w.heap.size + 1 := by simp
    have hs2 : ((w.alloc (.cells (mk N) 80)).alloc (.cells (mk N) 80)).heap.size = w.heap.size + 1 + 1 := by simp
    have hd0 : ∀ cs t, (((w.alloc (.cells (mk N) 80)).alloc (.cells (mk N) 80)).alloc (.cells cs t)).heap[w.heap.size + 1 + 1]? = some (.cells cs t (0, 0)) := fun cs t => by
      have := heap_alloc_new ((w.alloc (.cells (mk N) 80)).alloc (.cells (mk N) 80)) (.cells cs t)
      rw [hs2] at this
      exact this
    have hl0 : ∀ {o}, (((w.alloc (.cells (mk N) 80)).alloc (.cells (mk N) 80)).alloc o).heap[w.heap.size + 1]? = some (.cells (mk N) 80 (0, 0)) := fun {o} => by
      have := heap_alloc_new (w.alloc (.cells (mk N) 80)) (.cells (mk N) 80)
      rw [hs1] at this
      rw [Below.heap_alloc _ _ _ (by rw [hs2]; omega)]
      exact this
    have hn0 : ∀ {o}, (((w.alloc (.cells (mk N) 80)).alloc (.cells (mk N) 80)).alloc o).heap[w.heap.size]? = some (.cells (mk N) 80 (0, 0)) := fun {o} => by
      rw [Below.heap_alloc _ _ _ (by rw [hs2]; omega), Below.heap_alloc _ _ _ (by rw [hs1]; omega)]
      exact heap_alloc_new _ _
    have hB : ∀ o, Below w.heap.size w ((((w.alloc (.cells (mk N) 80)).alloc (.cells (mk N) 80)).alloc o).drew) := fun o =>
      ((((Below.refl _ _).alloc (Nat.le_refl _) _).alloc (by rw [hs1]; omega) _).alloc (by rw [hs2]; omega) _).drew
  · refine ⟨_, _, rfl, drv_new h0 h1 (bn := w.heap.size) (bl := w.heap.size + 1) (hd0 _ _) hn0 hl0 (by omega) (by omega) (by omega), ?_, hB _⟩
    intro b hb
    simp [owns, Value.ownBlock] at hb
    omega
  · refine ⟨_, _, rfl, drv_new h0 h1 (bn := w.heap.size + 1) (bl := w.heap.size) (hd0 _ _) hl0 hn0 (by omega) (by omega) (by omega), ?_, hB _⟩
    intro b hb
    simp [owns, Value.ownBlock] at hb
    omega
end Go.Proofs.Ytlhkkelpombbiaa
