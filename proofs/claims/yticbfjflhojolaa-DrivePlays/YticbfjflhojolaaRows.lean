/-
  No cell of these rows narrows 'for every input' (looked for: loops, veiled, ifaces, maps, wideKeys, modest, calm, conditions, laid).
  DERIVED. THE GIVEN ROWS OF THIS SEAT. 6 by the template 'for every input the law returns true; each argument reads behind the call as it read before'; 0 by the template 'total and deterministic' (their statements: YticbfjflhojolaaTotals.lean).
  GIVEN WITH THE SEED: the statements are not yours to turn. If you find one false, say at which input.
  Laid BY PROGRAM, IN A SANDBOX (cutbox-rows.mjs): the forced cells as the released guide's own fill.sh prints them over the translation 7b80fd6c4ed3c67b… (all of the seat's roots in one cut). By AI agents, Wed Nov 11 2026. No macro, syntax, notation, axiom, sorry.
-/
import Derived.Test.YticbfjflhojolaaChecked
import GoSem.Claim
import GoSem.ClaimJoined
import GoSem.ClaimMapViews
import Derived.JoinedTies
import Derived.KernelRfl
namespace Go.Proofs.Yticbfjflhojolaa
/- THE CELL 'sum', in the pinned program and in every row, IS THE sha256 OF THE DUMP (.gsa) THAT YticbfjflhojolaaProg.lean LOADS. Nothing in Lean hashes anything: it is a label: what it is worth is what the hold of that sum in a sandbox is worth. -/
noncomputable def Try.pinned : Pinned := { name := "yticbfjflhojolaa", sum := "7b80fd6c4ed3c67bb4f5720fb2255b43665c13be2b3ae3f9cd985c479ce46a84", checked := Try.checked }
namespace Rows
def none {H : Type} : Left H := { results := [], args := [] }

/-- 'copyholdlaw05.DrivePlays': WHATEVER THE INPUT: true; the input reads as it did. -/
def drivePlaysSpec : ChangeSpec := { name := "drivePlays", fn := fun _ => fun
  | [d1, d2, d3] => { results := [.lit (.bool true)], args := [d1, d2, d3] }
  | _ => none }
def drivePlaysRow : OpenClaim := { program := "yticbfjflhojolaa", sum := "7b80fd6c4ed3c67bb4f5720fb2255b43665c13be2b3ae3f9cd985c479ce46a84", func := "copyhold/copyholdlaw05.DrivePlays", spec := "drivePlays", apart := false }
def DrivePlaysSaid : Prop := drivePlaysRow.holds Try.pinned (OpenSpec.ofChange drivePlaysSpec)

/-- ITS FALSE NEIGHBOUR: 'it returns false'. Refute it at one input. -/
def drivePlaysWrong : ChangeSpec := { name := "drivePlays", fn := fun _ => fun
  | [d1, d2, d3] => { results := [.lit (.bool false)], args := [d1, d2, d3] }
  | _ => none }
def DrivePlaysWrongFalsely : Prop := drivePlaysRow.holds Try.pinned (OpenSpec.ofChange drivePlaysWrong)

/-- 'copyholdlaw05.DriveLasts': WHATEVER THE INPUT: true; the input reads as it did. -/
def driveLastsSpec : ChangeSpec := { name := "driveLasts", fn := fun _ => fun
  | [d1, d2, d3, d4] => { results := [.lit (.bool true)], args := [d1, d2, d3, d4] }
  | _ => none }
def driveLastsRow : OpenClaim := { program := "yticbfjflhojolaa", sum := "7b80fd6c4ed3c67bb4f5720fb2255b43665c13be2b3ae3f9cd985c479ce46a84", func := "copyhold/copyholdlaw05.DriveLasts", spec := "driveLasts", apart := false }
def DriveLastsSaid : Prop := driveLastsRow.holds Try.pinned (OpenSpec.ofChange driveLastsSpec)

/-- ITS FALSE NEIGHBOUR: 'it returns false'. Refute it at one input. -/
def driveLastsWrong : ChangeSpec := { name := "driveLasts", fn := fun _ => fun
  | [d1, d2, d3, d4] => { results := [.lit (.bool false)], args := [d1, d2, d3, d4] }
  | _ => none }
def DriveLastsWrongFalsely : Prop := driveLastsRow.holds Try.pinned (OpenSpec.ofChange driveLastsWrong)

/-- 'copyholdlaw05.DriveNone': WHATEVER THE INPUT: true; the input reads as it did. -/
def driveNoneSpec : ChangeSpec := { name := "driveNone", fn := fun _ => fun
  | [d1, d2, d3] => { results := [.lit (.bool true)], args := [d1, d2, d3] }
  | _ => none }
def driveNoneRow : OpenClaim := { program := "yticbfjflhojolaa", sum := "7b80fd6c4ed3c67bb4f5720fb2255b43665c13be2b3ae3f9cd985c479ce46a84", func := "copyhold/copyholdlaw05.DriveNone", spec := "driveNone", apart := false }
def DriveNoneSaid : Prop := driveNoneRow.holds Try.pinned (OpenSpec.ofChange driveNoneSpec)

/-- ITS FALSE NEIGHBOUR: 'it returns false'. Refute it at one input. -/
def driveNoneWrong : ChangeSpec := { name := "driveNone", fn := fun _ => fun
  | [d1, d2, d3] => { results := [.lit (.bool false)], args := [d1, d2, d3] }
  | _ => none }
def DriveNoneWrongFalsely : Prop := driveNoneRow.holds Try.pinned (OpenSpec.ofChange driveNoneWrong)

/-- 'copyholdlaw05.DriveFuse': WHATEVER THE INPUT: true; the input reads as it did. -/
def driveFuseSpec : ChangeSpec := { name := "driveFuse", fn := fun _ => fun
  | [d] => { results := [.lit (.bool true)], args := [d] }
  | _ => none }
def driveFuseRow : OpenClaim := { program := "yticbfjflhojolaa", sum := "7b80fd6c4ed3c67bb4f5720fb2255b43665c13be2b3ae3f9cd985c479ce46a84", func := "copyhold/copyholdlaw05.DriveFuse", spec := "driveFuse", apart := false }
def DriveFuseSaid : Prop := driveFuseRow.holds Try.pinned (OpenSpec.ofChange driveFuseSpec)

/-- ITS FALSE NEIGHBOUR: 'it returns false'. Refute it at one input. -/
def driveFuseWrong : ChangeSpec := { name := "driveFuse", fn := fun _ => fun
  | [d] => { results := [.lit (.bool false)], args := [d] }
  | _ => none }
def DriveFuseWrongFalsely : Prop := driveFuseRow.holds Try.pinned (OpenSpec.ofChange driveFuseWrong)

/-- 'copyholdlaw05.DriveOwn': WHATEVER THE INPUT: true; the input reads as it did. -/
def driveOwnSpec : ChangeSpec := { name := "driveOwn", fn := fun _ => fun
  | [d1, d2, d3] => { results := [.lit (.bool true)], args := [d1, d2, d3] }
  | _ => none }
def driveOwnRow : OpenClaim := { program := "yticbfjflhojolaa", sum := "7b80fd6c4ed3c67bb4f5720fb2255b43665c13be2b3ae3f9cd985c479ce46a84", func := "copyhold/copyholdlaw05.DriveOwn", spec := "driveOwn", apart := false }
def DriveOwnSaid : Prop := driveOwnRow.holds Try.pinned (OpenSpec.ofChange driveOwnSpec)

/-- ITS FALSE NEIGHBOUR: 'it returns false'. Refute it at one input. -/
def driveOwnWrong : ChangeSpec := { name := "driveOwn", fn := fun _ => fun
  | [d1, d2, d3] => { results := [.lit (.bool false)], args := [d1, d2, d3] }
  | _ => none }
def DriveOwnWrongFalsely : Prop := driveOwnRow.holds Try.pinned (OpenSpec.ofChange driveOwnWrong)

/-- 'copyholdlaw05.DriveTwo': WHATEVER THE INPUT: true; the input reads as it did. -/
def driveTwoSpec : ChangeSpec := { name := "driveTwo", fn := fun _ => fun
  | [d1, d2] => { results := [.lit (.bool true)], args := [d1, d2] }
  | _ => none }
def driveTwoRow : OpenClaim := { program := "yticbfjflhojolaa", sum := "7b80fd6c4ed3c67bb4f5720fb2255b43665c13be2b3ae3f9cd985c479ce46a84", func := "copyhold/copyholdlaw05.DriveTwo", spec := "driveTwo", apart := false }
def DriveTwoSaid : Prop := driveTwoRow.holds Try.pinned (OpenSpec.ofChange driveTwoSpec)

/-- ITS FALSE NEIGHBOUR: 'it returns false'. Refute it at one input. -/
def driveTwoWrong : ChangeSpec := { name := "driveTwo", fn := fun _ => fun
  | [d1, d2] => { results := [.lit (.bool false)], args := [d1, d2] }
  | _ => none }
def DriveTwoWrongFalsely : Prop := driveTwoRow.holds Try.pinned (OpenSpec.ofChange driveTwoWrong)

/- THE SECOND FORM. 'bulk': how many values and letters a reading holds, each counted each time it is reached (what is shared counts as often as it is met; a slice's spare places count too). A statement '..UptoSaid' is the law's where the arguments, and the package variables that the reading takes, are together of bulk at most 1048576: NARROWER than '..Said'. Prove '..Said' where nothing that the law and all that it calls make is longer than what came in: it says more and counts as full. Else prove '..UptoSaid'. A law counts once. -/
mutual
def uptoBulk {H : Type} : DataW H → Nat
  | .lit (.string bytes) => bytes.length + 1
  | .lit _ => 1
  | .nil => 1
  | .ptr d => uptoBulk d + 1
  | .slice elems spare => uptoBulkAll elems + uptoBulkAll spare + 1
  | .agg parts => uptoBulkAll parts + 1
  | .iface _ d => uptoBulk d + 1
  | .map entries => uptoBulkEntries entries + 1
  | .held _ => 1
def uptoBulkAll {H : Type} : List (DataW H) → Nat
  | [] => 0
  | d :: r => uptoBulk d + uptoBulkAll r
def uptoBulkEntries {H : Type} : List (Lit × DataW H) → Nat
  | [] => 0
  | x :: r => uptoBulkEntry x + uptoBulkEntries r
def uptoBulkEntry {H : Type} : Lit × DataW H → Nat
  | (.string bytes, d) => bytes.length + uptoBulk d + 1
  | (_, d) => uptoBulk d + 1
 end
def uptoSmall : (H : Type) → List (DataW H) → Bool := fun _ ds => decide (uptoBulkAll ds ≤ 1048576)
def OpenSpec.upto (s : _root_.Go.ChangeSpec) : _root_.Go.OpenSpec := { _root_.Go.OpenSpec.ofChange s with cond := some uptoSmall }

/-- 'copyholdlaw05.DrivePlays', WHERE WHAT IT READS IS OF BULK AT MOST 1048576: true; the input reads as it did. -/
def drivePlaysUptoRow : OpenClaim := { program := "yticbfjflhojolaa", sum := "7b80fd6c4ed3c67bb4f5720fb2255b43665c13be2b3ae3f9cd985c479ce46a84", func := "copyhold/copyholdlaw05.DrivePlays", spec := "drivePlays", apart := false, narrowed := true }
def DrivePlaysUptoSaid : Prop := drivePlaysUptoRow.holds Try.pinned (OpenSpec.upto drivePlaysSpec)

/-- 'copyholdlaw05.DriveLasts', WHERE WHAT IT READS IS OF BULK AT MOST 1048576: true; the input reads as it did. -/
def driveLastsUptoRow : OpenClaim := { program := "yticbfjflhojolaa", sum := "7b80fd6c4ed3c67bb4f5720fb2255b43665c13be2b3ae3f9cd985c479ce46a84", func := "copyhold/copyholdlaw05.DriveLasts", spec := "driveLasts", apart := false, narrowed := true }
def DriveLastsUptoSaid : Prop := driveLastsUptoRow.holds Try.pinned (OpenSpec.upto driveLastsSpec)

/-- 'copyholdlaw05.DriveNone', WHERE WHAT IT READS IS OF BULK AT MOST 1048576: true; the input reads as it did. -/
def driveNoneUptoRow : OpenClaim := { program := "yticbfjflhojolaa", sum := "7b80fd6c4ed3c67bb4f5720fb2255b43665c13be2b3ae3f9cd985c479ce46a84", func := "copyhold/copyholdlaw05.DriveNone", spec := "driveNone", apart := false, narrowed := true }
def DriveNoneUptoSaid : Prop := driveNoneUptoRow.holds Try.pinned (OpenSpec.upto driveNoneSpec)

/-- 'copyholdlaw05.DriveFuse', WHERE WHAT IT READS IS OF BULK AT MOST 1048576: true; the input reads as it did. -/
def driveFuseUptoRow : OpenClaim := { program := "yticbfjflhojolaa", sum := "7b80fd6c4ed3c67bb4f5720fb2255b43665c13be2b3ae3f9cd985c479ce46a84", func := "copyhold/copyholdlaw05.DriveFuse", spec := "driveFuse", apart := false, narrowed := true }
def DriveFuseUptoSaid : Prop := driveFuseUptoRow.holds Try.pinned (OpenSpec.upto driveFuseSpec)

/-- 'copyholdlaw05.DriveOwn', WHERE WHAT IT READS IS OF BULK AT MOST 1048576: true; the input reads as it did. -/
def driveOwnUptoRow : OpenClaim := { program := "yticbfjflhojolaa", sum := "7b80fd6c4ed3c67bb4f5720fb2255b43665c13be2b3ae3f9cd985c479ce46a84", func := "copyhold/copyholdlaw05.DriveOwn", spec := "driveOwn", apart := false, narrowed := true }
def DriveOwnUptoSaid : Prop := driveOwnUptoRow.holds Try.pinned (OpenSpec.upto driveOwnSpec)

/-- 'copyholdlaw05.DriveTwo', WHERE WHAT IT READS IS OF BULK AT MOST 1048576: true; the input reads as it did. -/
def driveTwoUptoRow : OpenClaim := { program := "yticbfjflhojolaa", sum := "7b80fd6c4ed3c67bb4f5720fb2255b43665c13be2b3ae3f9cd985c479ce46a84", func := "copyhold/copyholdlaw05.DriveTwo", spec := "driveTwo", apart := false, narrowed := true }
def DriveTwoUptoSaid : Prop := driveTwoUptoRow.holds Try.pinned (OpenSpec.upto driveTwoSpec)

end Rows
end Go.Proofs.Yticbfjflhojolaa
