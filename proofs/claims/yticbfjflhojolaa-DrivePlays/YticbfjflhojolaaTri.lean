/- Three drives that do not know of one another. -/
import Derived.Test.YticbfjflhojolaaPlay
namespace Go.Proofs.Yticbfjflhojolaa
open Go.RowKit
set_option linter.unusedVariables false

theorem putGo_since : ∀ (l : List Wr) (s : DS), (s.putGo l).2.since.length ≤ s.since.length + l.length
  | [], s => by simp [DS.putGo]
  | w :: r, s => by
    rw [DS.putGo]
    split
    · have h := putGo_since r (s.spend.put1 w.1.toNat w.2)
      have e : (s.spend.put1 w.1.toNat w.2).since.length = s.since.length + 1 := by
        simp only [DS.put1, List.length_append, List.length_singleton]; rw [spend_since]
      rw [e] at h
      simp only [List.length_cons]
      omega
    · show s.spend.since.length ≤ _
      rw [spend_since]
      omega
theorem step_since (s : DS) (N : Nat) (x : SStep) : (s.step N x).2.since.length ≤ s.since.length + x.list.length := by
  unfold DS.step
  split
  · unfold DS.put
    split
    · show s.since.length ≤ _; omega
    · split
      · exact putGo_since _ _
      · show s.since.length ≤ _; omega
  · split
    · unfold DS.flush
      split
      · show s.since.length ≤ _; omega
      · split
        · show 0 ≤ _; omega
        · show s.spend.since.length ≤ _; rw [spend_since]; omega
    · split
      · show s.since.length ≤ _; omega
      · split
        · show 0 ≤ _; omega
        · show s.since.length ≤ _; omega
theorem Drv.secs {w : World} {d N : Nat} {O : List Nat} {s : DS} (h : Drv w d O N s) (j : Nat) (l : List UInt8) (hl : s.lasting[j]? = some l) : l.length = 128 := by
  obtain ⟨bn, cn, bl, cl, vs, rfl, h⟩ := h
  exact (h.las.all j l hl).1
structure Tri (W w : World) (dx dy dz : Nat) (Ox Oy Oz : List Nat) (sx sy sz : DS) : Prop where
  x : Drv w dx Ox 64 sx
  y : Drv w dy Oy 64 sy
  z : Drv w dz Oz 64 sz
  xy : ∀ b ∈ Ox, b ∉ Oy
  xz : ∀ b ∈ Ox, b ∉ Oz
  yz : ∀ b ∈ Oy, b ∉ Oz
  fx : ∀ b ∈ Ox, W.heap.size ≤ b
  fy : ∀ b ∈ Oy, W.heap.size ≤ b
  fz : ∀ b ∈ Oz, W.heap.size ≤ b
  bel : Below W.heap.size W w
section
variable {W w w' : World} {dx dy dz : Nat} {Ox Oy Oz : List Nat} {sx sy sz s' : DS}
theorem Tri.didx (h : Tri W w dx dy dz Ox Oy Oz sx sy sz) (k : Did w dx Ox 64 s' w') : ∃ O', Tri W w' dx dy dz O' Oy Oz s' sy sz := by
  obtain ⟨O', h1, h2, h3⟩ := k
  refine ⟨O', h1, h.y.apart h2 fun b hb hm => h.xy b hm hb, h.z.apart h2 fun b hb hm => h.xz b hm hb, fun b hb hm => ?_, fun b hb hm => ?_, h.yz, fun b hb => ?_, h.fy, h.fz, h.bel.trans (h2.below h.bel.size h.fx)⟩
  · rcases h3 b hb with g | g
    · exact h.xy b g hm
    · have := h.y.lt b hm; omega
  · rcases h3 b hb with g | g
    · exact h.xz b g hm
    · have := h.z.lt b hm; omega
  · rcases h3 b hb with g | g
    · exact h.fx b g
    · have := h.bel.size; omega
theorem Tri.rot (h : Tri W w dx dy dz Ox Oy Oz sx sy sz) : Tri W w dy dx dz Oy Ox Oz sy sx sz :=
  ⟨h.y, h.x, h.z, fun b hb hm => h.xy b hm hb, h.yz, h.xz, h.fy, h.fx, h.fz, h.bel⟩
theorem Tri.rotz (h : Tri W w dx dy dz Ox Oy Oz sx sy sz) : Tri W w dz dx dy Oz Ox Oy sz sx sy :=
  ⟨h.z, h.x, h.y, fun b hb hm => h.xz b hm hb, fun b hb hm => h.yz b hm hb, h.xy, h.fz, h.fx, h.fy, h.bel⟩
theorem Tri.back (h : Tri W w dz dx dy Oz Ox Oy sz sx sy) : Tri W w dx dy dz Ox Oy Oz sx sy sz :=
  ⟨h.y, h.z, h.x, h.yz, fun b hb hm => h.xy b hm hb, fun b hb hm => h.xz b hm hb, h.fy, h.fz, h.fx, h.bel⟩
theorem Tri.below (h : Tri W w dx dy dz Ox Oy Oz sx sy sz) (hb : Below w.heap.size w w') : Tri W w' dx dy dz Ox Oy Oz sx sy sz :=
  ⟨h.x.keep fun b hb' => hb.block b (h.x.lt b hb'), h.y.keep fun b hb' => hb.block b (h.y.lt b hb'), h.z.keep fun b hb' => hb.block b (h.z.lt b hb'), h.xy, h.xz, h.yz, h.fx, h.fy, h.fz, h.bel.trans (hb.mono h.bel.size)⟩
theorem Tri.drew (h : Tri W w dx dy dz Ox Oy Oz sx sy sz) : Tri W w.drew dx dy dz Ox Oy Oz sx sy sz := h.below (Below.refl _ _).drew
/-- A call of play on the first of the three. -/
def PT (W : World) (dx dy dz : Nat) (Oy Oz : List Nat) (s' sy sz : DS) (w' : World) : Prop := ∃ O', Tri W w' dx dy dz O' Oy Oz s' sy sz
theorem playT {x : SStep} {A1 A2 : Option Addr} {n1 c1 n2 c2 : Nat} (h : Tri W w dx dy dz Ox Oy Oz sx sy sz) (hv : StepV W (fun q => q < W.heap.size) x A1 n1 c1 A2 n2 c2) (hb : sx.since.length + x.list.length ≤ 2097152) :
    Calls Try.prog 25 #[.pointer (some ⟨dx, 0, none⟩), .agg #[.int .i64 x.what, .int .i64 x.n, .slice A1 n1 c1, .slice A2 n2 c2]] w fun e w' => e = .returned (.int .i64 (sx.step 64 x).1) ∧ PT W dx dy dz Oy Oz (sx.step 64 x).2 sy sz w' := by
  refine (play_any h.x (hv.keep fun b hb => h.bel.block b hb) (fun b hb => ⟨Nat.lt_of_lt_of_le hb h.bel.size, fun e => by have := h.fx b e; omega⟩) (by omega)).mono ?_
  rintro e w' ⟨rfl, hd⟩
  exact ⟨rfl, h.didx hd⟩
end
end Go.Proofs.Yticbfjflhojolaa
