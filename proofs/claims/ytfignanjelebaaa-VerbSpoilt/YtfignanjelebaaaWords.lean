/- Words for memory: a slice of bytes that reads as a list; what '[]byte(s)' and 'string(b)' make of it. -/
import Derived.Test.YtfignanjelebaaaRows
import Derived.Test.YtfignanjelebaaaPlain
import Derived.WalkKit
import Derived.ProofKit
import Derived.Below
import Derived.Laws.OwnMore
import Derived.Laws.IdiomStrings
import Derived.Laws.BytesArg
import Derived.Maps.AppendAt
import Derived.Deep.AppendLies
import Derived.Lib.Hide
namespace Go.Proofs.Ytfignanjelebaaa
open Go.RowKit

theorem ret1 {k : IntKind} {a b : Int} (h : a = b) : Ending.returned (.int k a) = .returned (.int k b) := by rw [h]

/-- The slice '.slice A n c' holds the bytes l; where it has any, they lie in a block below B. -/
structure Bts (w : World) (B : Nat) (A : Option Addr) (n c : Nat) (l : List UInt8) : Prop where
  len : l.length = n
  cap : n ≤ c
  lim : c ≤ maxLen
  nil : A = none → c = 0
  at_ : 0 < n → ∃ b off, A = some ⟨b, off, none⟩ ∧ b < B ∧ ∀ j, j < n → w.cell? ⟨b, off + j, none⟩ = some (.int .u8 ((l[j]?.getD 0).toNat : Int))

section
variable {w w' : World} {B B' n c : Nat} {A : Option Addr} {l : List UInt8}
theorem Bts.keep (h : Bts w B A n c l) (hk : ∀ p : Addr, p.block < B → w'.cell? p = w.cell? p) : Bts w' B A n c l :=
  ⟨h.len, h.cap, h.lim, h.nil, fun hn => by
    obtain ⟨b, off, e, hb, hc⟩ := h.at_ hn
    exact ⟨b, off, e, hb, fun j hj => (hk _ hb).trans (hc j hj)⟩⟩
theorem Bts.more (h : Bts w B A n c l) (hB : B ≤ B') : Bts w B' A n c l :=
  ⟨h.len, h.cap, h.lim, h.nil, fun hn => by
    obtain ⟨b, off, e, hb, hc⟩ := h.at_ hn
    exact ⟨b, off, e, by omega, hc⟩⟩
theorem Bts.below (h : Bts w B A n c l) (hb : Below B w w') : Bts w' B A n c l := h.keep fun _ hp => hb.cell hp
theorem Bts.nil_ (w : World) (B : Nat) : Bts w B none 0 0 [] := ⟨rfl, Nat.le_refl _, by decide, fun _ => rfl, fun h => absurd h (by omega)⟩
theorem Bts.cell (h : Bts w B A n c l) {k : Nat} (hk : k < n) : ∃ b off, A = some ⟨b, off, none⟩ ∧ b < B ∧ w.cell? ⟨b, off + k, none⟩ = some (.int .u8 ((l[k]?.getD 0).toNat : Int)) := by
  obtain ⟨b, off, e, hb, hc⟩ := h.at_ (by omega)
  exact ⟨b, off, e, hb, hc k hk⟩
/-- 'string(b)'. -/
theorem Bts.str (h : Bts w B A n c l) (W : World) (hW : ∀ p : Addr, p.block < B → W.cell? p = w.cell? p) : (convert 24 9 (.slice A n c)).run Try.prog W = .ok (.string ⟨l.toArray⟩) W := by
  rcases Nat.eq_zero_or_pos n with h0 | h0
  · subst h0
    have hl : l = [] := List.length_eq_zero_iff.1 h.len
    subst hl
    rw [run_convert_bytes_string W 24 9 5 _ 0 c Try.underlying24 Try.underlying5 Try.underlying9]
    cases A <;> simp [Conv.bytesToString, loadCells]
    all_goals rfl
  · obtain ⟨b, off, rfl, hb, hc⟩ := h.at_ h0
    obtain rfl := h.len
    refine run_convert_bytes_back W 24 9 5 ⟨b, off, none⟩ c l Try.underlying24 Try.underlying5 Try.underlying9 fun j hj => ?_
    have e : (⟨b, off, none⟩ : Addr).add j = ⟨b, off + j, none⟩ := by unfold Addr.add; split <;> simp_all
    rw [e, hW _ hb, hc j hj]
    simp [hj]
end
end Go.Proofs.Ytfignanjelebaaa
