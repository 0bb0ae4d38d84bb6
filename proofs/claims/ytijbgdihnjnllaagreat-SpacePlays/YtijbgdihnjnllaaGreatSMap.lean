/- A map of sectors in memory: made, asked, written, cleared; its keys in order. -/
import Derived.Test.YtijbgdihnjnllaaGreatSPlain
import Derived.Test.YtijbgdihnjnllaaGreatMRc
import Derived.Test.YtijbgdihnjnllaaGreatShelf
import Derived.Maps.OwnSet
namespace Go.Proofs.YtijbgdihnjnllaaGreat
open Go.RowKit Go.Maps
set_option linter.unusedVariables false

/-- A sector as a value. -/
def sv (x : List UInt8) : Value := .agg (bc x).toArray
def RH (v : Value) : Option (DataW Value × List MemPlace) := some (.held v, [])
def ent (p : Wr) : Lit × DataW Value := (.int .i64 p.1, .held (sv p.2))
def mapD (m : List Wr) : DataW Value := .map (m.map ent)
/-- Block b is a map of just these. -/
def MapAt (w : World) (b : Nat) (m : List Wr) : Prop := w.ownsMap Tryz.prog 3 RH b m.length (mapD m)

theorem insert_map (p : Wr) : ∀ l : List Wr, DataW.insert (ent p) (l.map ent) = (insW p l).map ent
  | [] => rfl
  | q :: r => by
    rw [List.map_cons, DataW.insert, insW, insert_map p r]
    have : ((ent p).1.before (ent q).1) = decide (p.1 < q.1) := rfl
    rw [this]
    by_cases h : p.1 < q.1
    · simp [h]
    · simp [h]
theorem same_ent (p : Wr) (k : Int) : (ent p).1.sameKey (.int .i64 k) = (p.1 == k) := by
  show decide (IntKind.i64 = IntKind.i64 ∧ p.1 = k) = _
  by_cases h : p.1 = k
  · simp [h]
  · simp [h]
theorem filter_map_ent (k : Int) : ∀ m : List Wr, (m.map ent).filter (fun p => !p.1.sameKey (.int .i64 k)) = (m.filter fun p => !(p.1 == k)).map ent
  | [] => rfl
  | q :: r => by
    have ih := filter_map_ent k r
    rw [List.map_cons, List.filter_cons, List.filter_cons, same_ent, ih]
    cases (q.1 == k) <;> simp
theorem put_mapD (m : List Wr) (k : Int) (x : List UInt8) : (mapD m).put (.int .i64 k) (.held (sv x)) = mapD (ins k x m) := by
  show DataW.map (DataW.insert (ent (k, x)) ((m.map ent).filter fun p => !p.1.sameKey (.int .i64 k))) = _
  rw [filter_map_ent, insert_map]
  rfl
theorem find_mapD (k : Int) : ∀ m : List Wr, (m.map ent).find? (fun p => p.1.sameKey (.int .i64 k)) = (m.find? fun p => p.1 == k).map ent
  | [] => rfl
  | q :: r => by
    rw [List.map_cons, List.find?_cons, List.find?_cons, same_ent, find_mapD k r]
    cases (q.1 == k) <;> simp
theorem has_mapD (m : List Wr) (k : Int) : has (mapD m) (.int .i64 k) = (find m k).isSome := by
  show (m.map ent).any (fun p => p.1.sameKey (.int .i64 k)) = _
  unfold find
  rw [Option.isSome_map]
  induction m with
  | nil => rfl
  | cons q r ih =>
    rw [List.map_cons, List.any_cons, List.find?_cons, same_ent, ih]
    cases (q.1 == k) <;> simp
theorem at_mapD (m : List Wr) (k : Int) (z : DataW Value) : (mapD m).atKey (.int .i64 k) z = match find m k with | some x => .held (sv x) | none => z := by
  unfold mapD DataW.atKey find
  simp only [find_mapD]
  cases m.find? (fun p => p.1 == k) <;> rfl
theorem size_mapD (m : List Wr) : Maps.size (mapD m) = m.length := by simp [mapD, Maps.size]
theorem intKeys_mapD (m : List Wr) : intKeys (mapD m) = m.map (·.1) := by
  unfold intKeys mapD
  simp only [List.map_map]
  rfl
theorem keyed3 : Keyed Tryz.prog 3 := int_keyed Tryz.underlying3
theorem wf64 {k : Int} (h1 : -9223372036854775808 ≤ k) (h2 : k ≤ 9223372036854775807) : (Lit.int .i64 k).wf = true := by
  simp [Lit.wf, IntKind.min, IntKind.max, IntKind.bits, IntKind.signed]
  omega
theorem key3 {k : Int} (h1 : -9223372036854775808 ≤ k) (h2 : k ≤ 9223372036854775807) : keyOf Tryz.prog 3 (.int .i64 k) = some (.int .i64 k) := keyOf_int_mk Tryz.underlying3 (wf64 h1 h2)
section
variable {w w' : World} {b : Nat} {m : List Wr}
theorem MapAt.lt (h : MapAt w b m) : b < w.heap.size := World.ownsMap.lt h
theorem MapAt.keep (h : MapAt w b m) (he : w'.heap[b]? = w.heap[b]?) : MapAt w' b m := by
  obtain ⟨es, clock, hb, r⟩ := h
  exact ⟨es, clock, he.trans hb, r⟩
theorem MapAt.below (h : MapAt w b m) (hb : Below w.heap.size w w') : MapAt w' b m := h.keep (hb.block b h.lt)
theorem MapAt.new (w : World) : MapAt (w.alloc (.map #[] 0)) w.heap.size [] := World.ownsMap_made w Tryz.prog 3 RH
theorem own_tight {n : Nat} {D : DataW Value} (h : w.ownsMap Tryz.prog 3 RH b n D) : w.ownsMap Tryz.prog 3 RH b (Maps.size D) D := by
  obtain ⟨es, clock, hb, F, hs, rfl⟩ := h
  exact ⟨es, clock, hb, F, by simp [Maps.size, length_sorted], rfl⟩
theorem zero90 (w : World) : (zeroValue 144).run Tryz.prog w = .ok (sv zeros) w := Tryz.zeroValue144 w
theorem MapAt.look (h : MapAt w b m) {k : Int} (h1 : -9223372036854775808 ≤ k) (h2 : k ≤ 9223372036854775807) :
    (Instr.lookup 102 (.map (some b)) (.int .i64 k) true).run Tryz.prog w = .ok (.tuple #[sv ((find m k).getD zeros), .bool (find m k).isSome]) w := by
  obtain ⟨v, ps, hrun, hv⟩ := World.ownsMap.look_ok h keyed3 Tryz.underlying102 (zero90 w) (zd := .held (sv zeros)) (zp := []) rfl (key3 h1 h2)
  rw [hrun, has_mapD]
  rw [at_mapD] at hv
  unfold RH at hv
  simp only [Option.some.injEq, Prod.mk.injEq] at hv
  have e : v = sv ((find m k).getD zeros) := by
    cases hf : find m k with
    | none => rw [hf] at hv; exact DataW.held.inj hv.1
    | some x => rw [hf] at hv; exact DataW.held.inj hv.1
  rw [e]
theorem MapAt.look1 (h : MapAt w b m) {k : Int} (h1 : -9223372036854775808 ≤ k) (h2 : k ≤ 9223372036854775807) {x : List UInt8} (hx : find m k = some x) :
    (Instr.lookup 102 (.map (some b)) (.int .i64 k) false).run Tryz.prog w = .ok (sv x) w := by
  obtain ⟨v, ps, hrun, hv⟩ := World.ownsMap.lookup h keyed3 Tryz.underlying102 (zero90 w) (zd := .held (sv zeros)) (zp := []) rfl (key3 h1 h2)
  rw [hrun]
  rw [at_mapD, hx] at hv
  unfold RH at hv
  simp only [Option.some.injEq, Prod.mk.injEq] at hv
  rw [DataW.held.inj hv.1]
theorem MapAt.len (h : MapAt w b m) (ty : TypeId) : (Builtin.len_ #[102] ty #[.map (some b)]).run Tryz.prog w = .ok (.int .i64 m.length) w := by
  have := World.ownsMap.len h Tryz.underlying102 ty
  rw [size_mapD] at this
  exact this
theorem MapAt.put (h : MapAt w b m) {k : Int} (h1 : -9223372036854775808 ≤ k) (h2 : k ≤ 9223372036854775807) (hl : m.length < 1000) (x : List UInt8) :
    ∃ w', (Instr.mapUpdate 102 (.map (some b)) (.int .i64 k) (sv x)).run Tryz.prog w = .ok () w' ∧ MapAt w' b (ins k x m) ∧ w.grownBy w' (some b) := by
  obtain ⟨w', hrun, ho, hg⟩ := World.ownsMap.update h keyed3 Tryz.underlying102 (by unfold maxLen; omega) (key3 h1 h2) (val := sv x) (d := .held (sv x)) (ps := []) rfl
  rw [put_mapD] at ho
  have := own_tight ho
  rw [size_mapD] at this
  exact ⟨w', hrun, this, hg⟩
theorem MapAt.clear (h : MapAt w b m) (ty : TypeId) :
    ∃ w', (Builtin.clear_ #[102] ty #[.map (some b)]).run Tryz.prog w = .ok (.tuple #[]) w' ∧ MapAt w' b [] ∧ w.grownBy w' (some b) := by
  obtain ⟨es, clock, hb, F, hs, hD⟩ := h
  refine ⟨ChangeMaps.setBlock w b (.map #[] clock), ?_, ⟨#[], clock, ChangeMaps.heap_setBlock_same hb _, ⟨by simp, MapKept.stamped_empty clock, by simp⟩, Nat.le_refl _, rfl⟩,
    ⟨rfl, rfl, rfl, by simp [ChangeMaps.setBlock], fun i _ hi => ChangeMaps.heap_setBlock_other hb _ (fun e => hi (by rw [e]))⟩⟩
  simp [Builtin.clear_, run_underlying Tryz.underlying102, MapKept.run_getObj_map hb, MapKept.run_setObj_map _ hb, Result.andThen, ChangeMaps.setBlock]
end
end Go.Proofs.YtijbgdihnjnllaaGreat
