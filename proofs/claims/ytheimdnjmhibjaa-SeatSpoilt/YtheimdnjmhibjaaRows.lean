/-
  No cell of these rows narrows 'for every input' (looked for: loops, veiled, ifaces, maps, wideKeys, modest, calm, conditions, laid).
  DERIVED. THE GIVEN ROWS OF THIS SEAT. 4 by the template 'for every input the law returns true; each argument reads behind the call as it read before'; 0 by the template 'total and deterministic' (their statements: YtheimdnjmhibjaaTotals.lean).
  GIVEN WITH THE SEED: the statements are not yours to turn. If you find one false, say at which input.
  Laid BY PROGRAM, IN A SANDBOX (cutbox-rows.mjs): the forced cells as the released guide's own fill.sh prints them over the translation 2d24b7d9febd10ba… (all of the seat's roots in one cut). By AI agents, Wed Nov 11 2026. No macro, syntax, notation, axiom, sorry.
-/
import Derived.Test.YtheimdnjmhibjaaChecked
import GoSem.Claim
import GoSem.ClaimJoined
import GoSem.ClaimMapViews
import Derived.JoinedTies
import Derived.KernelRfl
namespace Go.Proofs.Ytheimdnjmhibjaa
/- THE CELL 'sum', in the pinned program and in every row, IS THE sha256 OF THE DUMP (.gsa) THAT YtheimdnjmhibjaaProg.lean LOADS. Nothing in Lean hashes anything: it is a label: what it is worth is what the hold of that sum in a sandbox is worth. -/
noncomputable def Try.pinned : Pinned := { name := "ytheimdnjmhibjaa", sum := "2d24b7d9febd10bac2abe15463a10cac5297874e870c9e78a03af8401d85e4e9", checked := Try.checked }
namespace Rows
def none {H : Type} : Left H := { results := [], args := [] }

/-- 'copyholdlaw08.SeatEncodes': WHATEVER THE INPUT: true; the input reads as it did. -/
def seatEncodesSpec : ChangeSpec := { name := "seatEncodes", fn := fun _ => fun
  | [d1, d2] => { results := [.lit (.bool true)], args := [d1, d2] }
  | _ => none }
def seatEncodesRow : OpenClaim := { program := "ytheimdnjmhibjaa", sum := "2d24b7d9febd10bac2abe15463a10cac5297874e870c9e78a03af8401d85e4e9", func := "copyhold/copyholdlaw08.SeatEncodes", spec := "seatEncodes", unfollowed := true, recurses := true, apart := false }
def SeatEncodesSaid : Prop := seatEncodesRow.holds Try.pinned (OpenSpec.ofChange seatEncodesSpec)

/-- ITS FALSE NEIGHBOUR: 'it returns false'. Refute it at one input. -/
def seatEncodesWrong : ChangeSpec := { name := "seatEncodes", fn := fun _ => fun
  | [d1, d2] => { results := [.lit (.bool false)], args := [d1, d2] }
  | _ => none }
def SeatEncodesWrongFalsely : Prop := seatEncodesRow.holds Try.pinned (OpenSpec.ofChange seatEncodesWrong)

/-- 'copyholdlaw08.SeatFates': WHATEVER THE INPUT: true; the input reads as it did. -/
def seatFatesSpec : ChangeSpec := { name := "seatFates", fn := fun _ => fun
  | [d1, d2, d3, d4] => { results := [.lit (.bool true)], args := [d1, d2, d3, d4] }
  | _ => none }
def seatFatesRow : OpenClaim := { program := "ytheimdnjmhibjaa", sum := "2d24b7d9febd10bac2abe15463a10cac5297874e870c9e78a03af8401d85e4e9", func := "copyhold/copyholdlaw08.SeatFates", spec := "seatFates", unfollowed := true, recurses := true, apart := false }
def SeatFatesSaid : Prop := seatFatesRow.holds Try.pinned (OpenSpec.ofChange seatFatesSpec)

/-- ITS FALSE NEIGHBOUR: 'it returns false'. Refute it at one input. -/
def seatFatesWrong : ChangeSpec := { name := "seatFates", fn := fun _ => fun
  | [d1, d2, d3, d4] => { results := [.lit (.bool false)], args := [d1, d2, d3, d4] }
  | _ => none }
def SeatFatesWrongFalsely : Prop := seatFatesRow.holds Try.pinned (OpenSpec.ofChange seatFatesWrong)

/-- 'copyholdlaw08.SeatOnce': WHATEVER THE INPUT: true; the input reads as it did. -/
def seatOnceSpec : ChangeSpec := { name := "seatOnce", fn := fun _ => fun
  | [d1, d2, d3, d4, d5] => { results := [.lit (.bool true)], args := [d1, d2, d3, d4, d5] }
  | _ => none }
def seatOnceRow : OpenClaim := { program := "ytheimdnjmhibjaa", sum := "2d24b7d9febd10bac2abe15463a10cac5297874e870c9e78a03af8401d85e4e9", func := "copyhold/copyholdlaw08.SeatOnce", spec := "seatOnce", unfollowed := true, recurses := true, apart := false }
def SeatOnceSaid : Prop := seatOnceRow.holds Try.pinned (OpenSpec.ofChange seatOnceSpec)

/-- ITS FALSE NEIGHBOUR: 'it returns false'. Refute it at one input. -/
def seatOnceWrong : ChangeSpec := { name := "seatOnce", fn := fun _ => fun
  | [d1, d2, d3, d4, d5] => { results := [.lit (.bool false)], args := [d1, d2, d3, d4, d5] }
  | _ => none }
def SeatOnceWrongFalsely : Prop := seatOnceRow.holds Try.pinned (OpenSpec.ofChange seatOnceWrong)

/-- 'copyholdlaw08.SeatSpoilt': WHATEVER THE INPUT: true; the input reads as it did. -/
def seatSpoiltSpec : ChangeSpec := { name := "seatSpoilt", fn := fun _ => fun
  | [d1, d2, d3] => { results := [.lit (.bool true)], args := [d1, d2, d3] }
  | _ => none }
def seatSpoiltRow : OpenClaim := { program := "ytheimdnjmhibjaa", sum := "2d24b7d9febd10bac2abe15463a10cac5297874e870c9e78a03af8401d85e4e9", func := "copyhold/copyholdlaw08.SeatSpoilt", spec := "seatSpoilt", unfollowed := true, recurses := true, apart := false }
def SeatSpoiltSaid : Prop := seatSpoiltRow.holds Try.pinned (OpenSpec.ofChange seatSpoiltSpec)

/-- ITS FALSE NEIGHBOUR: 'it returns false'. Refute it at one input. -/
def seatSpoiltWrong : ChangeSpec := { name := "seatSpoilt", fn := fun _ => fun
  | [d1, d2, d3] => { results := [.lit (.bool false)], args := [d1, d2, d3] }
  | _ => none }
def SeatSpoiltWrongFalsely : Prop := seatSpoiltRow.holds Try.pinned (OpenSpec.ofChange seatSpoiltWrong)

/- THE SECOND FORM. 'bulk': how many values and letters a reading holds, each counted each time it is reached (what is shared counts as often as it is met; a slice's spare places count too). A statement '..UptoSaid' is the law's where the arguments, and the package variables that the reading takes, are together of bulk at most 1048576: NARROWER than '..Said'. Prove '..Said' where nothing that the law and all that it calls make is longer than what came in: it says more and counts as full. Else prove '..UptoSaid'. A law counts once. -/
mutual
def uptoBulk {H : Type} : DataW H → Nat
  | .lit (.string bytes) => bytes.length + 1
  | .lit _ => 1
  | .nil => 1
  | .ptr d => uptoBulk d + 1
  | .slice elems spare => uptoBulkAll elems + uptoBulkAll spare + 1
  | .agg parts => uptoBulkAll parts + 1
  | .iface _ d => uptoBulk d + 1
  | .map entries => uptoBulkEntries entries + 1
  | .held _ => 1
def uptoBulkAll {H : Type} : List (DataW H) → Nat
  | [] => 0
  | d :: r => uptoBulk d + uptoBulkAll r
def uptoBulkEntries {H : Type} : List (Lit × DataW H) → Nat
  | [] => 0
  | x :: r => uptoBulkEntry x + uptoBulkEntries r
def uptoBulkEntry {H : Type} : Lit × DataW H → Nat
  | (.string bytes, d) => bytes.length + uptoBulk d + 1
  | (_, d) => uptoBulk d + 1
 end
def uptoSmall : (H : Type) → List (DataW H) → Bool := fun _ ds => decide (uptoBulkAll ds ≤ 1048576)
def OpenSpec.upto (s : _root_.Go.ChangeSpec) : _root_.Go.OpenSpec := { _root_.Go.OpenSpec.ofChange s with cond := some uptoSmall }

/-- 'copyholdlaw08.SeatEncodes', WHERE WHAT IT READS IS OF BULK AT MOST 1048576: true; the input reads as it did. -/
def seatEncodesUptoRow : OpenClaim := { program := "ytheimdnjmhibjaa", sum := "2d24b7d9febd10bac2abe15463a10cac5297874e870c9e78a03af8401d85e4e9", func := "copyhold/copyholdlaw08.SeatEncodes", spec := "seatEncodes", unfollowed := true, recurses := true, apart := false, narrowed := true }
def SeatEncodesUptoSaid : Prop := seatEncodesUptoRow.holds Try.pinned (OpenSpec.upto seatEncodesSpec)

/-- 'copyholdlaw08.SeatFates', WHERE WHAT IT READS IS OF BULK AT MOST 1048576: true; the input reads as it did. -/
def seatFatesUptoRow : OpenClaim := { program := "ytheimdnjmhibjaa", sum := "2d24b7d9febd10bac2abe15463a10cac5297874e870c9e78a03af8401d85e4e9", func := "copyhold/copyholdlaw08.SeatFates", spec := "seatFates", unfollowed := true, recurses := true, apart := false, narrowed := true }
def SeatFatesUptoSaid : Prop := seatFatesUptoRow.holds Try.pinned (OpenSpec.upto seatFatesSpec)

/-- 'copyholdlaw08.SeatOnce', WHERE WHAT IT READS IS OF BULK AT MOST 1048576: true; the input reads as it did. -/
def seatOnceUptoRow : OpenClaim := { program := "ytheimdnjmhibjaa", sum := "2d24b7d9febd10bac2abe15463a10cac5297874e870c9e78a03af8401d85e4e9", func := "copyhold/copyholdlaw08.SeatOnce", spec := "seatOnce", unfollowed := true, recurses := true, apart := false, narrowed := true }
def SeatOnceUptoSaid : Prop := seatOnceUptoRow.holds Try.pinned (OpenSpec.upto seatOnceSpec)

/-- 'copyholdlaw08.SeatSpoilt', WHERE WHAT IT READS IS OF BULK AT MOST 1048576: true; the input reads as it did. -/
def seatSpoiltUptoRow : OpenClaim := { program := "ytheimdnjmhibjaa", sum := "2d24b7d9febd10bac2abe15463a10cac5297874e870c9e78a03af8401d85e4e9", func := "copyhold/copyholdlaw08.SeatSpoilt", spec := "seatSpoilt", unfollowed := true, recurses := true, apart := false, narrowed := true }
def SeatSpoiltUptoSaid : Prop := seatSpoiltUptoRow.holds Try.pinned (OpenSpec.upto seatSpoiltSpec)

end Rows
end Go.Proofs.Ytheimdnjmhibjaa
