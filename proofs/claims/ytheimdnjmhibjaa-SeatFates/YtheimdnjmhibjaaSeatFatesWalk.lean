/- SeatFates, walked. -/
import Derived.Test.YtheimdnjmhibjaaAwake
namespace Go.Proofs.Ytheimdnjmhibjaa.seatFates
open Go.RowKit
set_option linter.unusedVariables false
set_option maxRecDepth 20000 in
set_option maxHeartbeats 1000000 in
theorem walk (w : World) (a b : Int) (A : Option Addr) (n c : Nat) (h : Bool) (x y : Int) :
    Calls Try.prog 4 #[.agg #[.int .i64 a, .int .i64 b, .slice A n c], .bool h, .int .i64 x, .int .i64 y] w fun e W' => e = .returned (.bool true) ∧ Below w.heap.size w W' := by
  have hs : (w.alloc (Obj.cells #[.int .i64 a, .int .i64 b, .slice A n c] 24)).heap.size = w.heap.size + 1 := by simp
  have HSZ : ∀ W, Hid (Below (w.heap.size + 1) (w.alloc (Obj.cells #[.int .i64 a, .int .i64 b, .slice A n c] 24)) W → w.heap.size + 1 ≤ W.heap.size) := fun W hW => hs ▸ hW.size
  have HBF : ∀ W, Hid (Below (w.heap.size + 1) (w.alloc (Obj.cells #[.int .i64 a, .int .i64 b, .slice A n c] 24)) W → Below w.heap.size w W) := fun W hW => (box_below w _).trans (hW.mono (by omega))
  have HS : ∀ W, Hid (Below (w.heap.size + 1) (w.alloc (Obj.cells #[.int .i64 a, .int .i64 b, .slice A n c] 24)) W → W.cell? ⟨w.heap.size, 0, none⟩ = some (.int .i64 a) ∧ W.cell? ⟨w.heap.size, 1, none⟩ = some (.int .i64 b) ∧ W.cell? ⟨w.heap.size, 2, none⟩ = some (.slice A n c)) := fun W hW => cell3 w (.int .i64 a) (.int .i64 b) (.slice A n c) 24 w.heap.size rfl W hW
  have HB0 : Hid (Below (w.heap.size + 1) (w.alloc (Obj.cells #[.int .i64 a, .int .i64 b, .slice A n c] 24)) (w.alloc (Obj.cells #[.int .i64 a, .int .i64 b, .slice A n c] 24)).drew) := (Below.refl _ _).drew
  have HF := fun W => Lib.hid (fate_any a b A n c h x y W)
  have HG := fun W => Lib.hid (refFate_any a b A n c h x y W)
  generalize fate a b h x y = f at HF HG
  clear hs
  go_enter Try.func4, Try.ntmps4
  go_wp2_with fail
  go_region_held3 (fun w' => w'.cell? ⟨w.heap.size, 0, none⟩ = some (.int .i64 a) ∧ w'.cell? ⟨w.heap.size, 1, none⟩ = some (.int .i64 b) ∧ w'.cell? ⟨w.heap.size, 2, none⟩ = some (.slice A n c)) (first | (with_reducible exact (HS _).out HB0.out) | (with_reducible exact (HS _).out HB1.out) | (with_reducible exact (HS _).out HB2.out) | (with_reducible exact (HS _).out HB3.out)) (first
    | (go_at_call 13; (with_reducible refine (awake_any _).mono ?_); rintro e w1 ⟨rfl, hb1⟩; have HB1 := Lib.hid (HB0.out.trans (hb1.mono ((HSZ _).out HB0.out))); clear hb1)
    | (go_at_call 14; (with_reducible refine (HF _).out.mono ?_); rintro e w2 ⟨rfl, hb2⟩; have HB2 := Lib.hid (HB1.out.trans (hb2.mono ((HSZ _).out HB1.out))); clear hb2)
    | (go_at_call 15; (with_reducible refine (HG _).out.mono ?_); rintro e w3 ⟨rfl, hb3⟩; have HB3 := Lib.hid (HB2.out.trans (hb3.mono ((HSZ _).out HB2.out))); clear hb3))
  go_wp2_with fail
  go_ret
  exact ⟨rfl, (HBF _).out HB3.out⟩
end Go.Proofs.Ytheimdnjmhibjaa.seatFates
