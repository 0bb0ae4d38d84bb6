/- 'append(b, make([]byte, k)...)' onto a slice of one's own; bytes.Equal; texts as lists of bytes; the reference's Little, Sealed, Noughts. -/
import Derived.Test.YtijphembfohfnaaFRefsB
import Derived.Test.YtijphembfohfnaaFForm
import Derived.Lib.AppendZerosOnto
namespace Go.Proofs.Ytijphembfohfnaa
open Go.RowKit
set_option linter.unusedVariables false

theorem retb {a b : Bool} (h : a = b) : Ending.returned (.bool a) = .returned (.bool b) := by rw [h]
theorem below_drewN {B : Nat} {a w : World} (h : Below B a w) (n : Nat) : Below B a (w.drewN n) := ⟨h.os, h.tape, h.output, h.size, h.block⟩
theorem zeroCells_one (z : Value) (n : Nat) : (Builtin.zeroCells #[z] n).toList = List.replicate n z := by
  apply List.ext_getElem
  · simp [Builtin.zeroCells]
  · intro i h1 h2
    simp [Builtin.zeroCells, Nat.mod_one]
theorem app_zeros {w : World} {base k : Nat} {v : Value} {l : List UInt8} (ty : TypeId) (hown : w.ownsRow base 5 1 v l.length (l.map F.bv)) (h0 : 0 < k) (hl0 : 0 < l.length) (hl : l.length + k ≤ 1000000) (hbase : base ≤ w.heap.size) :
    ∃ v' w', (Builtin.append_ #[22, 3] ty #[v, .int .i64 (k : Int)]).run Try.prog w = .ok v' w' ∧ w'.ownsRow base 5 1 v' (l ++ List.replicate k 0).length ((l ++ List.replicate k 0).map F.bv) ∧ w.grownBy w' v.ownBlock := by
  obtain ⟨i0, hi, hz0, hz1, hz2⟩ := info_parts F.Try.info5
  have hmap : (l ++ List.replicate k 0).map F.bv = l.map F.bv ++ List.replicate k (.int .u8 0) := by simp [F.bv]
  have hlen : (l ++ List.replicate k (0 : UInt8)).length = l.length + k := by simp
  rw [hmap, hlen]
  have hzc : (Value.int .u8 0).cells = #[Value.int .u8 0] := rfl
  rcases hown.2 with ⟨rfl, he⟩ | ⟨g, cap, cur, rfl, hbg, hg, hnc, hcm, hcs, htake⟩
  · omega
  · by_cases hroom : l.length + k ≤ cap
    · have hst := run_storeCells_at Try.prog g (l.length * i0.size) 5 (List.replicate k (.int .u8 0)) 0 cur w hg (by rw [hz1]; simp [hcs]; omega) (fun u hu => by rw [List.eq_of_mem_replicate hu]; rfl)
      simp only [Nat.add_zero] at hst
      have hw : IntKind.i64.wrap (k : Int) = k := by rw [IntKind.wrap_i64]; omega
      have hneg : ¬ ((k : Int) < 0) := by omega
      have h48i : ¬ (281474976710656 < (k : Int) * (i0.bytes : Int)) := by rw [hz2]; omega
      have hns : ¬ (k * i0.size = 0) := by rw [hz1]; omega
      have hzl : (Builtin.zeroCells (Value.int .u8 0).cells k).toList = List.replicate k (.int .u8 0) := by rw [hzc, zeroCells_one]
      have hr : (Builtin.append_ #[22, 3] ty #[.slice (some ⟨g, 0, none⟩) l.length cap, .int .i64 (k : Int)]).run Try.prog w = .ok (.slice (some ⟨g, 0, none⟩) (l.length + k) cap) (w.setRow g (cur.toList.take (l.length * i0.size) ++ List.replicate k (Value.int .u8 0) ++ cur.toList.drop (l.length * i0.size + k)).toArray) := by
        simp only [List.length_replicate] at hst
        simp [Builtin.append_, run_underlying Try.underlying22, run_underlying Try.underlying3, sizeOf, typeInfo, zeroValue, hi, hz0, asInt, asIntOf, hw, hneg, hns, h48i, hroom, Addr.add_lit, hzl, hst]
      refine ⟨_, _, hr, ⟨?_, .inr ⟨g, cap, _, rfl, hbg, setRow_heap w g cur _ 5 _ hg, hroom, hcm, ?_, ?_⟩⟩, ⟨rfl, rfl, rfl, by simp, fun k _ hk => setRow_other w g k _ (fun e => hk (by simp [Value.ownBlock, e]))⟩⟩
      · simp
      · simp only [List.size_toArray, List.length_append, List.length_take, List.length_drop, Array.length_toList, List.length_replicate]
        rw [hz1]
        omega
      · rw [hz1, htake, Nat.mul_one]
        exact List.take_left' (by simp)
    · have holds := hown.cells (g := g) rfl
      have hold := run_firstCells_some (P := Try.prog) w.drew i0.size l.length ⟨g, 0, none⟩ l.length cap (l.map F.bv) (by rw [hz1]; simp) (fun j u hu => holds j u hu)
      have hr := Lib.run_append_grow_zeros (P := Try.prog) w 22 3 ty 5 i0 _ .i64 .i64 Try.underlying22 Try.underlying3 hi hz0 (some ⟨g, 0, none⟩) l.length cap (l.map F.bv) hold k h0 (by rw [hz1]; omega) (by omega) (by omega) (by rw [hz2]; omega) (growslice_fits (by omega) (by rw [hz2]; omega))
      have hge := grownCap_ge w (l.length + k) cap 5
      have hcm2 : grownCap w (l.length + k) cap 5 ≤ maxLen := grownCap_le_maxLen w (l.length + k) cap 5 (by unfold maxLen; omega)
      refine ⟨_, _, hr, ⟨by simp, .inr ⟨w.heap.size, _, _, rfl, hbase, heap_alloc_new w.drew _, hge, hcm2, ?_, ?_⟩⟩, ⟨rfl, rfl, rfl, by simp, fun k hk _ => Below.heap_alloc w.drew _ k hk⟩⟩
      · simp only [Array.size_append, List.size_toArray, size_zeroCells, hzc, List.length_map]
        simp
        omega
      · simp only [Array.toList_append, hzc, zeroCells_one, Nat.mul_one]
        exact List.take_left' (by simp)
def sb (l : List UInt8) : ByteArray := ⟨l.toArray⟩
theorem sb_size (l : List UInt8) : (sb l).size = l.length := rfl
theorem sb_app (a b : List UInt8) : sb a ++ sb b = sb (a ++ b) := by
  apply ByteArray.ext
  simp [sb]
theorem sb_inj {a b : List UInt8} (h : sb a = sb b) : a = b := by
  have : a.toArray = b.toArray := congrArg ByteArray.data h
  simpa using this
theorem sb_toList (l : List UInt8) : (sb l).toList = l := by
  have h : (sb l).toList = (sb l).data.toList := ByteArray.toList_eq _
  rw [h]; rfl
theorem sb_list (a b : List UInt8) : ((sb a).toList == (sb b).toList) = decide (a = b) := by
  rw [sb_toList, sb_toList]
  by_cases h : a = b
  · subst h; simp
  · simp [h]
theorem fstr {w : World} {B n c : Nat} {A : Option Addr} {l : List UInt8} (h : F.Bts w B A n c l) (W : World) (hW : Below B w W) : (convert 22 9 (.slice A n c)).run Try.prog W = .ok (.string (sb l)) W := h.str W fun p hp => hW.cell hp
theorem little6 (n k : Nat) (w : World) (hn : n ≤ 4294967296) (hk : k ≤ 4) :
    Calls Try.prog 22 #[.int .i64 n, .int .i64 k] w fun e w' => e = .returned (.string (sb (F.lit k n))) ∧ Below w.heap.size w w' := F.little_any n k w hn hk
def noughtsL (k : Nat) : ByteArray := sb (List.replicate k 0)
theorem noughts_size (k : Nat) : (noughtsL k).size = k := by unfold noughtsL; rw [sb_size]; simp
theorem noughts_succ (k : Nat) : noughtsL k ++ { data := #[0] } = noughtsL (k + 1) := by
  have : ({ data := #[0] } : ByteArray) = sb [0] := rfl
  unfold noughtsL
  rw [this, sb_app, ← List.replicate_succ']
set_option maxRecDepth 20000 in
set_option maxHeartbeats 1000000 in
theorem noughts_any (n : Nat) (w : World) (hn : n ≤ 1000) :
    Calls Try.prog 23 #[.int .i64 n] w fun e w' => e = .returned (.string (noughtsL n)) ∧ w = w' := by
  go_enter Try.func23, Try.ntmps23
  go_wp2
  go_loop [3] (fun s => ∃ k : Nat, k ≤ n ∧ s = .string (noughtsL k)) (fun s => match s with | .string b => n - b.size | _ => 0)
  case atStart => exact ⟨0, Nat.zero_le _, rfl⟩
  case round =>
    obtain ⟨k, hk, rfl⟩ := hrel
    have hz := noughts_size k
    have HS := Lib.hid (noughts_succ k)
    have HZ1 := Lib.hid (noughts_size (k + 1))
    by_cases hlt : k < n
    · have hz1 : ¬ 9223372036854775807 < k + 1 := by omega
      go_wp2
      go_round
      case rel => exact ⟨k + 1, by omega, by rw [← HS.out]⟩
      case measure => show n - (noughtsL k ++ { data := #[0] }).size < n - (noughtsL k).size; rw [HS.out, HZ1.out, hz]; omega
    · obtain rfl : k = n := by omega
      go_wp2
      go_ret
      exact ⟨rfl, rfl⟩
end Go.Proofs.Ytijphembfohfnaa
