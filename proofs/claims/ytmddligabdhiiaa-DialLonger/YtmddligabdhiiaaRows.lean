/-
  No cell of these rows narrows 'for every input' (looked for: loops, veiled, ifaces, maps, wideKeys, modest, calm, conditions, laid).
  DERIVED. THE GIVEN ROWS OF THIS SEAT. 2 by the template 'for every input the law returns true; each argument reads behind the call as it read before'; 0 by the template 'total and deterministic' (their statements: YtmddligabdhiiaaTotals.lean).
  GIVEN WITH THE SEED: the statements are not yours to turn. If you find one false, say at which input.
  Laid BY PROGRAM, IN A SANDBOX (cutbox-rows.mjs): the forced cells as the released guide's own fill.sh prints them over the translation 0cf3fd044d1ec724… (all of the seat's roots in one cut). By AI agents, Wed Nov 11 2026. No macro, syntax, notation, axiom, sorry.
-/
import Derived.Test.YtmddligabdhiiaaChecked
import GoSem.Claim
import GoSem.ClaimJoined
import GoSem.ClaimMapViews
import Derived.JoinedTies
import Derived.KernelRfl
namespace Go.Proofs.Ytmddligabdhiiaa
/- THE CELL 'sum', in the pinned program and in every row, IS THE sha256 OF THE DUMP (.gsa) THAT YtmddligabdhiiaaProg.lean LOADS. Nothing in Lean hashes anything: it is a label: what it is worth is what the hold of that sum in a sandbox is worth. -/
noncomputable def Try.pinned : Pinned := { name := "ytmddligabdhiiaa", sum := "0cf3fd044d1ec72422cc01648180b6beb02022699d55ffccd429297a2537ebf3", checked := Try.checked }
namespace Rows
def none {H : Type} : Left H := { results := [], args := [] }

/-- 'copyholdlaw01.DialNears': WHATEVER THE INPUT: true; the input reads as it did. -/
def dialNearsSpec : ChangeSpec := { name := "dialNears", fn := fun _ => fun
  | [d1, d2] => { results := [.lit (.bool true)], args := [d1, d2] }
  | _ => none }
def dialNearsRow : OpenClaim := { program := "ytmddligabdhiiaa", sum := "0cf3fd044d1ec72422cc01648180b6beb02022699d55ffccd429297a2537ebf3", func := "copyhold/copyholdlaw01.DialNears", spec := "dialNears", inPlace := ["math.archTrunc", "math.Float64bits", "math.Float64frombits"], apart := false }
def DialNearsSaid : Prop := dialNearsRow.holds Try.pinned (OpenSpec.ofChange dialNearsSpec)

/-- ITS FALSE NEIGHBOUR: 'it returns false'. Refute it at one input. -/
def dialNearsWrong : ChangeSpec := { name := "dialNears", fn := fun _ => fun
  | [d1, d2] => { results := [.lit (.bool false)], args := [d1, d2] }
  | _ => none }
def DialNearsWrongFalsely : Prop := dialNearsRow.holds Try.pinned (OpenSpec.ofChange dialNearsWrong)

/-- 'copyholdlaw01.DialLonger': WHATEVER THE INPUT: true; the input reads as it did. -/
def dialLongerSpec : ChangeSpec := { name := "dialLonger", fn := fun _ => fun
  | [d1, d2, d3, d4] => { results := [.lit (.bool true)], args := [d1, d2, d3, d4] }
  | _ => none }
def dialLongerRow : OpenClaim := { program := "ytmddligabdhiiaa", sum := "0cf3fd044d1ec72422cc01648180b6beb02022699d55ffccd429297a2537ebf3", func := "copyhold/copyholdlaw01.DialLonger", spec := "dialLonger", inPlace := ["math.archTrunc", "math.Float64bits", "math.Float64frombits"], apart := false }
def DialLongerSaid : Prop := dialLongerRow.holds Try.pinned (OpenSpec.ofChange dialLongerSpec)

/-- ITS FALSE NEIGHBOUR: 'it returns false'. Refute it at one input. -/
def dialLongerWrong : ChangeSpec := { name := "dialLonger", fn := fun _ => fun
  | [d1, d2, d3, d4] => { results := [.lit (.bool false)], args := [d1, d2, d3, d4] }
  | _ => none }
def DialLongerWrongFalsely : Prop := dialLongerRow.holds Try.pinned (OpenSpec.ofChange dialLongerWrong)

/- THE SECOND FORM. 'bulk': how many values and letters a reading holds, each counted each time it is reached (what is shared counts as often as it is met; a slice's spare places count too). A statement '..UptoSaid' is the law's where the arguments, and the package variables that the reading takes, are together of bulk at most 1048576: NARROWER than '..Said'. Prove '..Said' where nothing that the law and all that it calls make is longer than what came in: it says more and counts as full. Else prove '..UptoSaid'. A law counts once. -/
mutual
def uptoBulk {H : Type} : DataW H → Nat
  | .lit (.string bytes) => bytes.length + 1
  | .lit _ => 1
  | .nil => 1
  | .ptr d => uptoBulk d + 1
  | .slice elems spare => uptoBulkAll elems + uptoBulkAll spare + 1
  | .agg parts => uptoBulkAll parts + 1
  | .iface _ d => uptoBulk d + 1
  | .map entries => uptoBulkEntries entries + 1
  | .held _ => 1
def uptoBulkAll {H : Type} : List (DataW H) → Nat
  | [] => 0
  | d :: r => uptoBulk d + uptoBulkAll r
def uptoBulkEntries {H : Type} : List (Lit × DataW H) → Nat
  | [] => 0
  | x :: r => uptoBulkEntry x + uptoBulkEntries r
def uptoBulkEntry {H : Type} : Lit × DataW H → Nat
  | (.string bytes, d) => bytes.length + uptoBulk d + 1
  | (_, d) => uptoBulk d + 1
 end
def uptoSmall : (H : Type) → List (DataW H) → Bool := fun _ ds => decide (uptoBulkAll ds ≤ 1048576)
def OpenSpec.upto (s : _root_.Go.ChangeSpec) : _root_.Go.OpenSpec := { _root_.Go.OpenSpec.ofChange s with cond := some uptoSmall }

/-- 'copyholdlaw01.DialNears', WHERE WHAT IT READS IS OF BULK AT MOST 1048576: true; the input reads as it did. -/
def dialNearsUptoRow : OpenClaim := { program := "ytmddligabdhiiaa", sum := "0cf3fd044d1ec72422cc01648180b6beb02022699d55ffccd429297a2537ebf3", func := "copyhold/copyholdlaw01.DialNears", spec := "dialNears", inPlace := ["math.archTrunc", "math.Float64bits", "math.Float64frombits"], apart := false, narrowed := true }
def DialNearsUptoSaid : Prop := dialNearsUptoRow.holds Try.pinned (OpenSpec.upto dialNearsSpec)

/-- 'copyholdlaw01.DialLonger', WHERE WHAT IT READS IS OF BULK AT MOST 1048576: true; the input reads as it did. -/
def dialLongerUptoRow : OpenClaim := { program := "ytmddligabdhiiaa", sum := "0cf3fd044d1ec72422cc01648180b6beb02022699d55ffccd429297a2537ebf3", func := "copyhold/copyholdlaw01.DialLonger", spec := "dialLonger", inPlace := ["math.archTrunc", "math.Float64bits", "math.Float64frombits"], apart := false, narrowed := true }
def DialLongerUptoSaid : Prop := dialLongerUptoRow.holds Try.pinned (OpenSpec.upto dialLongerSpec)

end Rows
end Go.Proofs.Ytmddligabdhiiaa
